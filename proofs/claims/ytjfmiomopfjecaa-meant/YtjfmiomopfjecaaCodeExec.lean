/- straight.Exec, slots.Exec. -/
import Derived.Test.YtjfmiomopfjecaaCodeParse
import Derived.Test.YtjfmiomopfjecaaNetEval
namespace Go.Proofs.Ytjfmiomopfjecaa
open Go.RowKit

theorem stored_cap {wr : World} {base g L j cap : Nat} {f f' : Nat → Int} {x : Int} (hown : wr.ownsRow base 3 1 (.slice (some ⟨g, 0, none⟩) L cap) L (intCells (M.listOf L f)))
    (h : ∀ i, i < L → (if i = j then x else f i) = f' i) :
    (wr.setCell ⟨g, j, none⟩ (.int .i64 x)).ownsRow base 3 1 (.slice (some ⟨g, 0, none⟩) L cap) L (intCells (M.listOf L f')) := by
  have e := (hown.stored j (.int .i64 x)).1
  rw [intCells_set, M.listOf_set, M.listOf_congr h] at e
  exact e
theorem insOf_cells {s inp : ByteArray} : M.insOf inp (M.bz s 1) = M.listOf (M.bz s 1) (M.cellsAt s inp 0) := by
  unfold M.insOf
  refine List.map_congr_left fun i hi => ?_
  unfold M.cellsAt
  rw [if_pos (List.mem_range.1 hi)]

theorem cparse_ok (s : ByteArray) (w : World) (hs : s.size ≤ maxLen) (h : M.isCode s = true) :
    Calls Try.prog 48 #[.string s] w fun e w' => ∃ a1 cap1 a2 cap2, e = .returned (.tuple #[.agg #[.int .i64 (M.bz s 1), .int .i64 (M.bz s 2), .slice a1 (M.bz s 3) cap1, .slice a2 (M.bz s 4) cap2], .bool true]) ∧
      HoldsRow w' (.slice a1 (M.bz s 3) cap1) (M.bz s 3) (intCells (bvals s 5 (M.bz s 3))) ∧ HoldsRow w' (.slice a2 (M.bz s 4) cap2) (M.bz s 4) (scells s (5 + M.bz s 3) (M.bz s 4)) ∧ Below w.heap.size w w' := by
  have hh := code_head h
  have hsd : csoundOk s = true := by
    unfold M.isCode at h
    rw [hh] at h
    exact h
  refine (cparse_any s w hs hh).mono fun e w' ⟨h1, _, h3⟩ => ?_
  obtain ⟨v1, v2, he, r1, r2⟩ := h1 hsd
  obtain ⟨a1, cap1, e1, _, _, _⟩ := r1.shape
  obtain ⟨a2, cap2, e2, _, _, _⟩ := r2.shape
  subst e1 e2
  exact ⟨a1, cap1, a2, cap2, he, r1, r2, h3⟩
theorem cparse_no (s : ByteArray) (w : World) (hs : s.size ≤ maxLen) (h : M.isCode s = false) :
    Calls Try.prog 48 #[.string s] w fun e w' => e = .returned (.tuple #[.agg #[.int .i64 0, .int .i64 0, .slice none 0 0, .slice none 0 0], .bool false]) ∧ Below w.heap.size w w' := by
  cases hh : M.cHead s
  · exact cparse_shape s w hs hh
  · refine (cparse_any s w hs hh).mono fun e w' ⟨_, h2, h3⟩ => ⟨h2 ?_, h3⟩
    unfold M.isCode at h
    rw [hh] at h
    exact h

theorem ctakes_any (n c : Nat) (v1 v2 : Value) (inp : ByteArray) (w : World) (hn : n ≤ 255) (_hi : inp.size ≤ maxLen) :
    Calls Try.prog 49 #[.agg #[.int .i64 n, .int .i64 c, v1, v2], .string inp] w fun e w' => e = .returned (.bool (decide (inp.size = 2 * n))) ∧ Below w.heap.size w w' := by
  unfold maxLen at _hi
  have HE : Hid (((inp.size : Int) == 2 * (n : Int)) = decide (inp.size = 2 * n)) := by
    show _ = _
    rw [Bool.eq_iff_iff]; simp; omega
  go_enter Try.func49, Try.ntmps49
  go_wp2
  go_ret
  exact ⟨ret_bool HE.out, (Below.refl _ _).alloc (Nat.le_refl _) _⟩

set_option maxHeartbeats 1600000 in
theorem codeExec_any (s inp : ByteArray) (a1 a2 : Option Addr) (cap1 cap2 : Nat) (w : World) (h : M.isCode s = true) (heq : inp.size = 2 * M.bz s 1)
    (hr1 : HoldsRow w (.slice a1 (M.bz s 3) cap1) (M.bz s 3) (intCells (bvals s 5 (M.bz s 3)))) (hr2 : HoldsRow w (.slice a2 (M.bz s 4) cap2) (M.bz s 4) (scells s (5 + M.bz s 3) (M.bz s 4))) :
    Calls Try.prog 50 #[.agg #[.int .i64 (M.bz s 1), .int .i64 (M.bz s 2), .slice a1 (M.bz s 3) cap1, .slice a2 (M.bz s 4) cap2], .string inp] w fun e w' => e = .returned (.string (M.execOut s inp)) ∧ Below w.heap.size w w' := by
  obtain ⟨h0, h1, h2, h3, h4, h5, h6, h7, h8⟩ := M.cHead_eq (code_head h)
  have HTO : Hid (∀ k, k < M.bz s 4 → M.bz s (5 + M.bz s 3 + 4 * k + 1) < M.bz s 2) := fun k hk => code_to h hk
  have HOP : Hid (∀ k, k < M.bz s 4 → M.okOp (M.bz s (5 + M.bz s 3 + 4 * k)) (M.bz s (5 + M.bz s 3 + 4 * k + 2)) (M.bz s (5 + M.bz s 3 + 4 * k + 3)) (M.bz s 2) = true) := fun k hk => code_op h hk
  have HZ : Hid (∀ k, k ≤ M.bz s 4 → ∀ i, M.bz s 2 ≤ i → M.cellsAt s inp k i = 0) := fun k hk i hi => M.cellsAt_zero (L := M.bz s 2) h3 (fun k hk => code_to h hk) k hk i hi
  have HZ0 : Hid (∀ i, M.bz s 1 ≤ i → M.cellsAt s inp 0 i = 0) := fun i hi => if_neg (by omega)
  have HIN : Hid (M.insOf inp (M.bz s 1) = M.listOf (M.bz s 1) (M.cellsAt s inp 0)) := insOf_cells
  have HCS : Hid (∀ k i, (if i = M.bz s (5 + M.bz s 3 + 4 * k + 1) then M.nodeDo (M.bz s (5 + M.bz s 3 + 4 * k)) (M.cellsAt s inp k (M.bz s (5 + M.bz s 3 + 4 * k + 2))) (M.cellsAt s inp k (M.bz s (5 + M.bz s 3 + 4 * k + 3))) (M.bz s (5 + M.bz s 3 + 4 * k + 2)) (M.bz s (5 + M.bz s 3 + 4 * k + 3)) else M.cellsAt s inp k i) = M.cellsAt s inp (k + 1) i) := fun k i => rfl
  have HFIN : Hid (M.outOf (M.cellsAt s inp (M.bz s 4)) s (M.bz s 3) = M.execOut s inp) := rfl
  have HB23 : Hid (0 < M.bz s 4 → ∃ g, a2 = some ⟨g, 0, none⟩ ∧ g < w.heap.size ∧ ∀ j u, (scells s (5 + M.bz s 3) (M.bz s 4))[j]? = some u → w.cell? ⟨g, j, none⟩ = some u) := by
    obtain ⟨a, c, e, _, _, hx⟩ := hr2.shape
    simp only [Value.slice.injEq] at e
    obtain ⟨rfl, _, _⟩ := e
    exact hx
  have HR1 := hide hr1
  have hval := hide (fun n => wordValues_any inp (M.bz s 1) n heq (by omega))
  clear h h0 h8 heq hr1 hr2
  go_enter Try.func50, Try.ntmps50
  go_wp2_with fail
  refine (unhide hval _).mono ?_
  rintro e w2 ⟨v, rfl, hown, hb2⟩
  have HB2 : Hid (Below (w.heap.size + 1) (w.alloc (.cells #[.int .i64 (M.bz s 1), .int .i64 (M.bz s 2), .slice a1 (M.bz s 3) cap1, .slice a2 (M.bz s 4) cap2] 59)) w2) := hb2.mono (by simp)
  have HO2 : Hid (w2.ownsRow (w.heap.size + 1) 3 1 v (M.listOf (M.bz s 1) (M.cellsAt s inp 0)).length (intCells (M.listOf (M.bz s 1) (M.cellsAt s inp 0)))) := by
    rw [← HIN.out]
    have e : (w.alloc (.cells #[.int .i64 (M.bz s 1), .int .i64 (M.bz s 2), .slice a1 (M.bz s 3) cap1, .slice a2 (M.bz s 4) cap2] 59)).heap.size = w.heap.size + 1 := by simp
    rw [e] at hown
    exact hown
  clear hown hb2 HIN hval
  generalize M.bz s 1 = n at *
  generalize M.bz s 2 = c at *
  generalize M.bz s 3 = o at *
  generalize M.bz s 4 = m at *
  go_wp2_with fail
  go_loopw [5] (fun v wr => ∃ k : Nat, n ≤ k ∧ k ≤ c ∧ wr.ownsRow (w.heap.size + 1) 3 1 v (M.listOf k (M.cellsAt s inp 0)).length (intCells (M.listOf k (M.cellsAt s inp 0))) ∧ Below (w.heap.size + 1) (w.alloc (.cells #[.int .i64 n, .int .i64 c, .slice a1 o cap1, .slice a2 m cap2] 59)) wr) (fun v _ => match v with | .slice _ l _ => c - l | _ => 0)
  case atStart => exact ⟨n, by omega, h3, unhide HO2, unhide HB2⟩
  case round =>
    clear HO2 HB2
    obtain ⟨k, hk0, hk, hown, hbel⟩ := hrel
    have hb1 : wr.cell? ⟨w.heap.size, 1, none⟩ = some (.int .i64 c) := (hbel.cell (p := ⟨w.heap.size, 1, none⟩) (by simp)).trans (by simp)
    have hsz := hbel.size
    simp only [World.size_alloc] at hsz
    have HLen := hide (M.listOf_length k (M.cellsAt s inp 0))
    have hown' := hown
    rw [HLen.out] at hown'
    obtain ⟨ao, cap, hv, hcap, hmax, hao⟩ := (holdsRow_own hown').shape
    subst hv
    unfold maxLen at hmax
    have HO := hide hown
    have HO' := hide hown'
    have HB := hide hbel
    have HAO := hide hao
    clear hown hown' hbel hao
    by_cases hlt : k < c
    · have HS : Hid (M.listOf (k + 1) (M.cellsAt s inp 0) = M.listOf k (M.cellsAt s inp 0) ++ [0]) := by rw [M.listOf_succ, HZ0.out k hk0]; rfl
      go_wp2_with (at_builtin; (refine append_int _ rfl (.tmp 16) (.tmp 17) rfl (w.heap.size + 1) (.slice ao k cap) (M.listOf k (M.cellsAt s inp 0)) 0 rfl rfl (unhide HO) (by rw [HLen.out]; omega) (by omega) ?_); intro v' w3 hown1 hbel1 hsz3)
      have HR : Hid (w3.ownsRow (w.heap.size + 1) 3 1 v' (M.listOf (k + 1) (M.cellsAt s inp 0)).length (intCells (M.listOf (k + 1) (M.cellsAt s inp 0)))) := by rw [HS.out]; exact hown1
      have HB3 := hide (hbel1 _ (unhide HB))
      obtain ⟨ao', cap', hv', _, _, _⟩ := (holdsRow_own (unhide HR)).shape
      rw [M.listOf_length] at hv'
      clear hown1 hbel1
      subst hv'
      go_roundw
      case rel => exact ⟨k + 1, by omega, by omega, unhide HR, unhide HB3⟩
      case measure => simp; omega
    · have hkc : k = c := by omega
      subst hkc
      obtain ⟨g, hg0, _, _⟩ := unhide HAO (by omega)
      subst hg0
      clear hlt HAO HLen
      go_wp2_with fail
      clear hb1
      go_loopw [6] (fun i wr => ∃ j : Nat, j ≤ m ∧ i = .int .i64 j ∧ wr.ownsRow (w.heap.size + 1) 3 1 (.slice (some ⟨g, 0, none⟩) k cap) k (intCells (M.listOf k (M.cellsAt s inp j))) ∧ Below (w.heap.size + 1) (w.alloc (.cells #[.int .i64 n, .int .i64 k, .slice a1 o cap1, .slice a2 m cap2] 59)) wr) (fun i _ => m - (intOf i).toNat)
      case atStart => exact ⟨0, by omega, rfl, unhide HO', unhide HB⟩
      case round =>
        clear HO HO' HB hsz
        obtain ⟨j, hj, rfl, hown, hbel⟩ := hrel
        have hb2 : wr.cell? ⟨w.heap.size, 2, none⟩ = some (.slice a1 o cap1) := (hbel.cell (p := ⟨w.heap.size, 2, none⟩) (by simp)).trans (by simp)
        have hb3 : wr.cell? ⟨w.heap.size, 3, none⟩ = some (.slice a2 m cap2) := (hbel.cell (p := ⟨w.heap.size, 3, none⟩) (by simp)).trans (by simp)
        have hsz := hbel.size
        simp only [World.size_alloc] at hsz
        have HV := hide (M.listOf_vals k (M.cellsAt s inp j) (M.cellsAt_val s inp j))
        have HGet := hide (M.listOf_getD k (M.cellsAt s inp j) (fun i hi => HZ.out j hj i hi))
        have hrow : HoldsRow wr (.slice (some ⟨g, 0, none⟩) k cap) (M.listOf k (M.cellsAt s inp j)).length (intCells (M.listOf k (M.cellsAt s inp j))) := by rw [M.listOf_length]; exact holdsRow_own hown
        have HRow := hide hrow
        have HO := hide hown
        have HB := hide hbel
        by_cases hlt : j < m
        · obtain ⟨q, hq0, hq, hcell⟩ := unhide HB23 (by omega)
          subst hq0
          have hold : ∀ i, wr.cell? ⟨q, i, none⟩ = w.cell? ⟨q, i, none⟩ := fun i => (hbel.cell (p := ⟨q, i, none⟩) (by show q < _; omega)).trans (World.cell?_alloc_lt _ _ _ hq)
          have e0 := (hold (j * 4)).trans (hcell (j * 4) _ (scells_at s (5 + o) m (j * 4) (by omega)))
          have e1 := (hold (j * 4 + 1)).trans (hcell (j * 4 + 1) _ (scells_at s (5 + o) m (j * 4 + 1) (by omega)))
          have e2 := (hold (j * 4 + 2)).trans (hcell (j * 4 + 2) _ (scells_at s (5 + o) m (j * 4 + 2) (by omega)))
          have e3 := (hold (j * 4 + 3)).trans (hcell (j * 4 + 3) _ (scells_at s (5 + o) m (j * 4 + 3) (by omega)))
          rw [show sval s (5 + o) (j * 4) = (M.bz s (5 + o + 4 * j) : Int) from by rw [Nat.mul_comm, sval0]] at e0
          rw [show sval s (5 + o) (j * 4 + 1) = (M.bz s (5 + o + 4 * j + 2) : Int) from by rw [Nat.mul_comm, sval1]] at e1
          rw [show sval s (5 + o) (j * 4 + 2) = (M.bz s (5 + o + 4 * j + 3) : Int) from by rw [Nat.mul_comm, sval2]] at e2
          rw [show sval s (5 + o) (j * 4 + 3) = (M.bz s (5 + o + 4 * j + 1) : Int) from by rw [Nat.mul_comm, sval3]] at e3
          have b1 := M.bz_lt s (5 + o + 4 * j + 2)
          have b2 := M.bz_lt s (5 + o + 4 * j + 3)
          have hto := HTO.out j hlt
          have hop := okOp_le (HOP.out j hlt)
          have HS := hide (HCS.out j)
          have HNV := hide (show M.nodeVal (M.listOf k (M.cellsAt s inp j)) (M.bz s (5 + o + 4 * j)) (M.bz s (5 + o + 4 * j + 2)) (M.bz s (5 + o + 4 * j + 3)) = M.nodeDo (M.bz s (5 + o + 4 * j)) (M.cellsAt s inp j (M.bz s (5 + o + 4 * j + 2))) (M.cellsAt s inp j (M.bz s (5 + o + 4 * j + 3))) (M.bz s (5 + o + 4 * j + 2)) (M.bz s (5 + o + 4 * j + 3)) from by unfold M.nodeVal; rw [HGet.out, HGet.out])
          clear hold hcell hbel hown hrow
          generalize M.bz s (5 + o + 4 * j) = x at *
          generalize M.bz s (5 + o + 4 * j + 2) = y at *
          generalize M.bz s (5 + o + 4 * j + 3) = z at *
          generalize M.bz s (5 + o + 4 * j + 1) = t at *
          have HP := hide hop
          clear hop
          go_wp2_with fail
          refine (nodeValue_any x y z _ (M.listOf k (M.cellsAt s inp j)) _ (unhide HV) (unhide HRow) b1 b2 (unhide HP).1 (unhide HP).2).mono ?_
          rintro e w1 ⟨rfl, hbF⟩
          rw [HNV.out]
          generalize M.nodeDo x (M.cellsAt s inp j y) (M.cellsAt s inp j z) y z = u at *
          have c3 := cell_later hbF hb3
          have f3 := cell_later hbF e3
          have o1 := ownsRow_below (unhide HO) hbF
          have hfr := fun i => o1.frozenAt i
          have hct := (o1.cellAt t (by omega)).trans (intCells_at (l := M.listOf k (M.cellsAt s inp j)) (by rw [M.listOf_length]; exact hto))
          have HR := hide (stored_cap (j := t) (x := u) (f' := M.cellsAt s inp (j + 1)) o1 (fun i _ => HS.out i))
          have HB1 := hide ((unhide HB).trans (hbF.mono hsz))
          have hgb : w.heap.size + 1 ≤ g := (o1.lt g rfl).1
          clear hbF e0 e1 e2 e3 hb2 hb3 o1
          have t0 : decide ((0 : Int) ≤ (t : Int)) = true := decide_eq_true (by omega)
          go_wp2
          go_roundw
          case rel => exact ⟨j + 1, by omega, by go_num, unhide HR, (unhide HB1).setCell (by exact hgb) _⟩
          case measure => simp [intOf]; omega
        · have hjm : j = m := by omega
          subst hjm
          have HR1' := hide ((unhide HR1).mono (below_box hbel))
          clear hbel hown hrow hlt
          go_wp2_with fail
          refine (pick_any _ _ (M.listOf k (M.cellsAt s inp j)) s 5 o _ (unhide HV) (unhide HRow) (unhide HR1') h6).mono ?_
          rintro e w1 ⟨rfl, hbF⟩
          have HEND : Hid (M.outTo (M.listOf k (M.cellsAt s inp j)) s 5 o = M.execOut s inp) := by
            rw [M.outTo_outOf k _ (fun i hi => HZ.out j hj i hi)]; exact HFIN.out
          have HB1 := hide ((unhide HB).trans (hbF.mono hsz))
          clear hbF hb2 hb3
          generalize M.outTo (M.listOf k (M.cellsAt s inp j)) s 5 o = tx at *
          go_wp2
          go_ret
          exact ⟨ret_string HEND.out, below_box (unhide HB1)⟩

def execTxt (s inp : ByteArray) : ByteArray := if M.isCode s then (if inp.size = 2 * M.bz s 1 then M.execOut s inp else ⟨#[]⟩) else ⟨#[]⟩
def execNum (s inp : ByteArray) : Int := if M.isCode s then (if inp.size = 2 * M.bz s 1 then 0 else 2) else 3

theorem refExec_any (s inp : ByteArray) (w : World) (hs : s.size ≤ maxLen) (hi : inp.size ≤ maxLen) :
    Calls Try.prog 20 #[.string s, .string inp] w fun e w' => e = .returned (.tuple #[.string (execTxt s inp), .int .i64 (execNum s inp)]) ∧ Below w.heap.size w w' := by
  cases h : M.isCode s
  · have e1 : execTxt s inp = ⟨#[]⟩ := by unfold execTxt; rw [h]; rfl
    have e2 : execNum s inp = 3 := by unfold execNum; rw [h]; rfl
    rw [e1, e2]
    exact refExec_no s inp w hs h
  · by_cases hq : inp.size = 2 * M.bz s 1
    · have e1 : execTxt s inp = M.execOut s inp := by unfold execTxt; rw [h, if_pos rfl, if_pos hq]
      have e2 : execNum s inp = 0 := by unfold execNum; rw [h, if_pos rfl, if_pos hq]
      rw [e1, e2]
      exact refExec_yes s inp w hs h hq
    · have e1 : execTxt s inp = ⟨#[]⟩ := by unfold execTxt; rw [h, if_pos rfl, if_neg hq]
      have e2 : execNum s inp = 2 := by unfold execNum; rw [h, if_pos rfl, if_neg hq]
      rw [e1, e2]
      exact refExec_input s inp w hs hi h hq

theorem slotsExec_any (s inp : ByteArray) (w : World) (hs : s.size ≤ maxLen) (hi : inp.size ≤ maxLen) :
    Calls Try.prog 19 #[.string s, .string inp] w fun e w' => e = .returned (.tuple #[.string (execTxt s inp), .int .i64 (execNum s inp)]) ∧ Below w.heap.size w w' := by
  cases h : M.isCode s
  · have e1 : Hid (execTxt s inp = ⟨#[]⟩) := by unfold execTxt; rw [h]; rfl
    have e2 : Hid (execNum s inp = 3) := by unfold execNum; rw [h]; rfl
    go_enter Try.func19, Try.ntmps19
    go_wp2_with fail
    refine (cparse_no s _ hs h).mono ?_
    clear h
    rintro e w' ⟨rfl, hb⟩
    go_wp2
    go_ret2
    exact ⟨ret_two e1.out.symm e2.out.symm, hb.alloc hb.size _⟩
  · have bz1 := M.bz_lt s 1
    by_cases hq : inp.size = 2 * M.bz s 1
    · have e1 : Hid (execTxt s inp = M.execOut s inp) := by unfold execTxt; rw [h, if_pos rfl, if_pos hq]; rfl
      have e2 : Hid (execNum s inp = 0) := by unfold execNum; rw [h, if_pos rfl, if_pos hq]; rfl
      have HQ := hide hq
      clear hq
      go_enter Try.func19, Try.ntmps19
      go_wp2_with fail
      refine (cparse_ok s _ hs h).mono ?_
      have HH := hide h
      clear h
      rintro e w1 ⟨a1, cap1, a2, cap2, rfl, hr1, hr2, hb⟩
      have HB := hide hb
      have HR1 := hide (hr1.mono ((Below.refl _ _).alloc (Nat.le_refl _) (.cells #[.int .i64 (M.bz s 1), .int .i64 (M.bz s 2), .slice a1 (M.bz s 3) cap1, .slice a2 (M.bz s 4) cap2] 59)))
      have HR2 := hide (hr2.mono ((Below.refl _ _).alloc (Nat.le_refl _) (.cells #[.int .i64 (M.bz s 1), .int .i64 (M.bz s 2), .slice a1 (M.bz s 3) cap1, .slice a2 (M.bz s 4) cap2] 59)))
      have hsz := hb.size
      clear hb hr1 hr2
      go_wp2_with fail
      refine (ctakes_any _ _ _ _ inp _ (by omega) hi).mono ?_
      rintro e w2 ⟨rfl, hb2⟩
      rw [show decide (inp.size = 2 * M.bz s 1) = true from decide_eq_true HQ.out]
      have c0 : w2.cell? ⟨w1.heap.size, 0, none⟩ = some (.int .i64 (M.bz s 1)) := (hb2.cell (p := ⟨w1.heap.size, 0, none⟩) (by simp)).trans (by simp)
      have c1 : w2.cell? ⟨w1.heap.size, 1, none⟩ = some (.int .i64 (M.bz s 2)) := (hb2.cell (p := ⟨w1.heap.size, 1, none⟩) (by simp)).trans (by simp)
      have c2 : w2.cell? ⟨w1.heap.size, 2, none⟩ = some (.slice a1 (M.bz s 3) cap1) := (hb2.cell (p := ⟨w1.heap.size, 2, none⟩) (by simp)).trans (by simp)
      have c3 : w2.cell? ⟨w1.heap.size, 3, none⟩ = some (.slice a2 (M.bz s 4) cap2) := (hb2.cell (p := ⟨w1.heap.size, 3, none⟩) (by simp)).trans (by simp)
      have HS1 := hide ((unhide HR1).mono hb2)
      have HS2 := hide ((unhide HR2).mono hb2)
      have HB2 : Hid (Below w.heap.size w w2) := ((unhide HB).alloc hsz _).trans (hb2.mono (by simp; omega))
      have hsz2 := hb2.size
      simp only [World.size_alloc] at hsz2
      clear hb2
      go_wp2_with fail
      refine (codeExec_any s inp a1 a2 cap1 cap2 _ (unhide HH) (unhide HQ) (unhide HS1) (unhide HS2)).mono ?_
      rintro e w3 ⟨rfl, hb3⟩
      have HB3 := hide ((unhide HB2).trans (hb3.mono (by omega)))
      clear hb3
      go_wp2
      go_ret2
      exact ⟨ret_two e1.out.symm e2.out.symm, unhide HB3⟩
    · have e1 : Hid (execTxt s inp = ⟨#[]⟩) := by unfold execTxt; rw [h, if_pos rfl, if_neg hq]; rfl
      have e2 : Hid (execNum s inp = 2) := by unfold execNum; rw [h, if_pos rfl, if_neg hq]; rfl
      have HQ := hide hq
      clear hq
      go_enter Try.func19, Try.ntmps19
      go_wp2_with fail
      refine (cparse_ok s _ hs h).mono ?_
      clear h
      rintro e w1 ⟨a1, cap1, a2, cap2, rfl, hr1, hr2, hb⟩
      have HB := hide hb
      have hsz := hb.size
      clear hb hr1 hr2
      go_wp2_with fail
      refine (ctakes_any _ _ _ _ inp _ (by omega) hi).mono ?_
      rintro e w2 ⟨rfl, hb2⟩
      rw [show decide (inp.size = 2 * M.bz s 1) = false from decide_eq_false HQ.out]
      have HB2 : Hid (Below w.heap.size w w2) := ((unhide HB).alloc hsz _).trans (hb2.mono (by simp; omega))
      clear hb2
      go_wp2
      go_ret2
      exact ⟨ret_two e1.out.symm e2.out.symm, unhide HB2⟩

end Go.Proofs.Ytjfmiomopfjecaa

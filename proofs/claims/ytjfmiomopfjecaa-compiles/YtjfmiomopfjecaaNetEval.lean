/- net.Eval, slots.Check, slots.Eval. -/
import Derived.Test.YtjfmiomopfjecaaNetParse
namespace Go.Proofs.Ytjfmiomopfjecaa
open Go.RowKit

theorem parse_ok (s : ByteArray) (w : World) (hs : s.size ≤ maxLen) (h : M.isImage s = true) :
    Calls Try.prog 56 #[.string s] w fun e w' => ∃ a1 cap1 a2 cap2, e = .returned (.tuple #[.agg #[.int .i64 (M.bz s 1), .slice a1 (M.bz s 2) cap1, .slice a2 (M.bz s 3) cap2], .bool true]) ∧
      HoldsRow w' (.slice a1 (M.bz s 2) cap1) (M.bz s 2) (intCells (bvals s 4 (3 * M.bz s 2))) ∧ HoldsRow w' (.slice a2 (M.bz s 3) cap2) (M.bz s 3) (intCells (bvals s (4 + 3 * M.bz s 2) (M.bz s 3))) ∧ Below w.heap.size w w' := by
  have hh := image_head h
  have hsd : soundOk s = true := by
    unfold M.isImage at h
    rw [hh] at h
    exact h
  refine (parse_any s w hs hh).mono fun e w' ⟨h1, _, h3⟩ => ?_
  obtain ⟨v1, v2, he, r1, r2⟩ := h1 hsd
  obtain ⟨a1, cap1, e1, _, _, _⟩ := r1.shape
  obtain ⟨a2, cap2, e2, _, _, _⟩ := r2.shape
  subst e1 e2
  exact ⟨a1, cap1, a2, cap2, he, r1, r2, h3⟩
theorem parse_no (s : ByteArray) (w : World) (hs : s.size ≤ maxLen) (h : M.isImage s = false) :
    Calls Try.prog 56 #[.string s] w fun e w' => e = .returned (.tuple #[.agg #[.int .i64 0, .slice none 0 0, .slice none 0 0], .bool false]) ∧ Below w.heap.size w w' := by
  cases hh : M.headOk s
  · exact parse_shape s w hs hh
  · refine (parse_any s w hs hh).mono fun e w' ⟨_, h2, h3⟩ => ⟨h2 ?_, h3⟩
    unfold M.isImage at h
    rw [hh] at h
    exact h

theorem netCheck_any (s : ByteArray) (w : World) (hs : s.size ≤ maxLen) :
    Calls Try.prog 39 #[.string s] w fun e w' => e = .returned (.int .i64 (checkNum s)) ∧ Below w.heap.size w w' := by
  have HC := hide (show checkNum s = if M.isImage s then 0 else 1 from rfl)
  cases h : M.isImage s
  · have HE : Hid (checkNum s = 1) := by rw [HC.out, h]; rfl
    go_enter Try.func39, Try.ntmps39
    go_wp2_with fail
    refine (parse_no s _ hs h).mono ?_
    clear h
    rintro e w' ⟨rfl, hb⟩
    go_wp2
    go_ret
    exact ⟨ret_int HE.out.symm, hb.alloc hb.size _⟩
  · have HE : Hid (checkNum s = 0) := by rw [HC.out, h]; rfl
    go_enter Try.func39, Try.ntmps39
    go_wp2_with fail
    refine (parse_ok s _ hs h).mono ?_
    clear h
    rintro e w' ⟨a1, cap1, a2, cap2, rfl, _, _, hb⟩
    go_wp2
    go_ret
    exact ⟨ret_int HE.out.symm, hb.alloc hb.size _⟩

theorem takes_any (n : Nat) (v1 v2 : Value) (inp : ByteArray) (w : World) (hn : n ≤ 255) (_hi : inp.size ≤ maxLen) :
    Calls Try.prog 64 #[.agg #[.int .i64 n, v1, v2], .string inp] w fun e w' => e = .returned (.bool (decide (inp.size = 2 * n))) ∧ Below w.heap.size w w' := by
  unfold maxLen at _hi
  have HE : Hid (((inp.size : Int) == 2 * (n : Int)) = decide (inp.size = 2 * n)) := by
    show _ = _
    rw [Bool.eq_iff_iff]; simp; omega
  go_enter Try.func64, Try.ntmps64
  go_wp2
  go_ret
  exact ⟨ret_bool HE.out, (Below.refl _ _).alloc (Nat.le_refl _) _⟩

theorem insOf_at {inp : ByteArray} {q : Nat} (hq : inp.size = 2 * q) (i : Nat) : (M.insOf inp q).getD i 0 = M.wordVal ((M.bz inp (2 * i) : Int) * 256 + M.bz inp (2 * i + 1)) := by
  by_cases hi : i < q
  · simp [M.insOf, hi]
  · rw [M.bz_out inp (2 * i) (by omega), M.bz_out inp (2 * i + 1) (by omega), List.getD_eq_getElem?_getD, List.getElem?_eq_none (by rw [M.insOf_length]; omega)]
    rfl
set_option maxHeartbeats 800000 in
theorem netValues_at (s inp : ByteArray) (q n m c : Nat) (a1 a2 : Option Addr) (cap1 cap2 : Nat) (w : World) (h : M.isImage s = true) (heq : inp.size = 2 * q) (hq4 : q ≤ 4) (hn : M.bz s 1 = n) (hm : M.bz s 2 = m)
    (hr1 : HoldsRow w (.slice a1 m cap1) m (intCells (bvals s 4 (3 * m)))) :
    Calls Try.prog 83 #[.agg #[.int .i64 n, .slice a1 m cap1, .slice a2 c cap2], .string inp] w fun e w' => ∃ v, e = .returned v ∧
      HoldsRow w' v (M.runTo s inp m).length (intCells (M.runTo s inp m)) ∧ Below w.heap.size w w' := by
  obtain ⟨h0, h1, h2, h3, h4, h5, h6⟩ := M.headOk_eq (image_head h)
  have HOP : Hid (∀ k, k < m → M.okOp (M.bz s (4 + 3 * k)) (M.bz s (5 + 3 * k)) (M.bz s (6 + 3 * k)) (n + k) = true) := by rw [← hm, ← hn]; exact fun k hk => image_nodes h hk
  have HR0 : Hid (M.insOf inp n = M.runTo s inp 0) := by rw [← hn]; rfl
  rw [hn] at h1 h2
  rw [hm] at h3
  have HN := hide hn
  have HEQ := hide heq
  have HB13 : Hid (0 < m → ∃ g, a1 = some ⟨g, 0, none⟩ ∧ g < w.heap.size ∧ ∀ j u, (intCells (bvals s 4 (3 * m)))[j]? = some u → w.cell? ⟨g, j, none⟩ = some u) := by
    obtain ⟨a, c, e, _, _, hx⟩ := hr1.shape
    simp only [Value.slice.injEq] at e
    obtain ⟨rfl, _, _⟩ := e
    exact hx
  have hcap : cap1 ≤ maxLen ∧ m ≤ cap1 := by
    obtain ⟨a, c, e, h1, h2, hx⟩ := hr1.shape
    simp only [Value.slice.injEq] at e
    obtain ⟨_, _, rfl⟩ := e
    exact ⟨h2, h1⟩
  obtain ⟨hcap1, hcap2⟩ := hcap
  unfold maxLen at hcap1
  have hval := hide (fun w => wordValues_any inp q w heq hq4)
  clear h h0 h4 h5 h6 heq hr1 hn hm
  go_enter Try.func83, Try.ntmps83
  go_wp2_with fail
  refine (unhide hval _).mono ?_
  rintro e w2 ⟨gv, rfl, hown, hb2⟩
  have hsz0 : w.heap.size + 1 ≤ w2.heap.size := by have := hb2.size; simp at this; omega
  have HB2 : Hid (Below (w.heap.size + 1) (w.alloc (.cells #[.int .i64 (n), .slice a1 (m) cap1, .slice a2 (c) cap2] 66)) w2) := hb2.mono (by simp)
  have HG := hide (holdsRow_own hown)
  have hc0 : w2.cell? ⟨w.heap.size, 0, none⟩ = some (.int .i64 (n)) := (hb2.cell (p := ⟨w.heap.size, 0, none⟩) (by simp)).trans (by simp)
  have hc1 : w2.cell? ⟨w.heap.size, 1, none⟩ = some (.slice a1 (m) cap1) := (hb2.cell (p := ⟨w.heap.size, 1, none⟩) (by simp)).trans (by simp)
  have hc2 : w2.cell? ⟨w.heap.size, 2, none⟩ = some (.slice a2 (c) cap2) := (hb2.cell (p := ⟨w.heap.size, 2, none⟩) (by simp)).trans (by simp)
  have HC : Hid (∀ wr, Below w2.heap.size w2 wr → wr.cell? ⟨w.heap.size, 0, none⟩ = some (.int .i64 (n)) ∧ wr.cell? ⟨w.heap.size, 1, none⟩ = some (.slice a1 (m) cap1)) :=
    fun wr hb => ⟨(hb.cell (p := ⟨w.heap.size, 0, none⟩) (by show w.heap.size < _; omega)).trans hc0, (hb.cell (p := ⟨w.heap.size, 1, none⟩) (by show w.heap.size < _; omega)).trans hc1⟩
  have hfin := hide (fun wr (hb : Below w2.heap.size w2 wr) => below_box ((unhide HB2).trans (hb.mono hsz0)))
  have HOLD : Hid (∀ wr, Below w2.heap.size w2 wr → ∀ g j, g < w.heap.size → wr.cell? ⟨g, j, none⟩ = w.cell? ⟨g, j, none⟩) := fun wr hb g j hg =>
    (hb.cell (p := ⟨g, j, none⟩) (by show g < _; omega)).trans (((unhide HB2).cell (p := ⟨g, j, none⟩) (by show g < _; omega)).trans (World.cell?_alloc_lt _ _ _ hg))
  clear hown hb2 hc0 hc1 hc2 HB2
  go_wp2_with fail
  go_loopw [6, 7] (fun v i wr => ∃ k : Nat, k ≤ n ∧ i = .int .i64 k ∧ wr.ownsRow w2.heap.size 3 1 v (M.insOf inp k).length (intCells (M.insOf inp k)) ∧ Below w2.heap.size w2 wr) (fun _ i _ => n - (intOf i).toNat)
  case atStart => exact ⟨0, by omega, rfl, World.ownsRow_nil _ _ _ _, Below.refl _ _⟩
  case round =>
    obtain ⟨k, hk, rfl, hown, hbel⟩ := hrel
    obtain ⟨hb0, hb1⟩ := unhide HC _ hbel
    have hsz := hbel.size
    have HL := hide (M.insOf_length inp k)
    have HO := hide hown
    have HB := hide hbel
    have HGr := hide ((unhide HG).mono hbel)
    clear hown hbel
    by_cases hlt : k < n
    · have HS : Hid (M.insOf inp (k + 1) = M.insOf inp k ++ [(M.insOf inp q).getD k 0]) := by
        rw [insOf_at HEQ.out, M.insOf_succ]; rfl
      go_wp2_with fail
      refine (wordAt_any _ (M.insOf inp q) k _ (unhide HGr) (by omega)).mono ?_
      rintro e w' ⟨rfl, rfl⟩
      generalize (M.insOf inp q).getD k 0 = x at *
      go_wp2_with (at_builtin; (refine append_int _ rfl (.tmp 18) (.tmp 22) rfl w2.heap.size u6 (M.insOf inp k) x rfl rfl (unhide HO) (by rw [HL.out]; omega) hsz ?_); intro v' w1 hown1 hbel1 hsz1)
      have HR : Hid (w1.ownsRow w2.heap.size 3 1 v' (M.insOf inp (k + 1)).length (intCells (M.insOf inp (k + 1)))) := by rw [HS.out]; exact hown1
      have HB1 := hide (hbel1 _ (unhide HB))
      clear hown1 hbel1 hb0 hb1
      go_roundw
      case rel => exact ⟨k + 1, by omega, by go_num, unhide HR, unhide HB1⟩
      case measure => simp [intOf]; omega
    · have hkn : k = n := by omega
      subst hkn
      have HO0 : Hid (wr.ownsRow w2.heap.size 3 1 u6 (M.runTo s inp 0).length (intCells (M.runTo s inp 0))) := by
        rw [← HR0.out]; exact unhide HO
      clear HO HR0 HL HGr
      go_wp2_with fail
      go_loopw [6, 8] (fun v i wr => ∃ j : Nat, j ≤ m ∧ i = .int .i64 j ∧ wr.ownsRow w2.heap.size 3 1 v (M.runTo s inp j).length (intCells (M.runTo s inp j)) ∧ Below w2.heap.size w2 wr) (fun _ i _ => m - (intOf i).toNat)
      case atStart => exact ⟨0, by omega, rfl, unhide HO0, unhide HB⟩
      case round =>
        clear HO0 HB hb0 hb1 hsz
        obtain ⟨j, hj, rfl, hown, hbel⟩ := hrel
        obtain ⟨hb0, hb1⟩ := unhide HC _ hbel
        have hsz := hbel.size
        have HV := hide (M.runTo_vals s inp j)
        have HRow := hide (holdsRow_own hown)
        have HLen := hide (M.runTo_length s inp j)
        have HO := hide hown
        have HB := hide hbel
        by_cases hlt2 : j < m
        · obtain ⟨g, rfl, hg, hcell⟩ := unhide HB13 (by omega)
          have hold := fun i => unhide HOLD _ hbel g i hg
          have e0 := (hold (j * 3)).trans (hcell (j * 3) _ (bvals_at s 4 (3 * m) (j * 3) (by omega)))
          have e1 := (hold (j * 3 + 1)).trans (hcell (j * 3 + 1) _ (bvals_at s 4 (3 * m) (j * 3 + 1) (by omega)))
          have e2 := (hold (j * 3 + 2)).trans (hcell (j * 3 + 2) _ (bvals_at s 4 (3 * m) (j * 3 + 2) (by omega)))
          rw [show 4 + j * 3 = 4 + 3 * j from by omega] at e0
          rw [show 4 + (j * 3 + 1) = 5 + 3 * j from by omega] at e1
          rw [show 4 + (j * 3 + 2) = 6 + 3 * j from by omega] at e2
          have b0 := M.bz_lt s (4 + 3 * j)
          have b1 := M.bz_lt s (5 + 3 * j)
          have b2 := M.bz_lt s (6 + 3 * j)
          have hop := okOp_le (HOP.out j hlt2)
          have HS : Hid (M.runTo s inp (j + 1) = M.runTo s inp j ++ [M.nodeVal (M.runTo s inp j) (M.bz s (4 + 3 * j)) (M.bz s (5 + 3 * j)) (M.bz s (6 + 3 * j))]) := rfl
          clear hold hcell hbel hown HOP
          generalize M.bz s (4 + 3 * j) = x at *
          generalize M.bz s (5 + 3 * j) = y at *
          generalize M.bz s (6 + 3 * j) = z at *
          have HP := hide hop
          clear hop
          go_wp2_with fail
          refine (nodeValue_any x y z _ (M.runTo s inp j) _ (unhide HV) (unhide HRow) b1 b2 (unhide HP).1 (unhide HP).2).mono ?_
          rintro e w1 ⟨rfl, hbF⟩
          have hsz1 := hbF.size
          generalize M.nodeVal (M.runTo s inp j) x y z = y1 at *
          have HO1 := hide (ownsRow_below (unhide HO) hbF)
          have HB1 := hide ((unhide HB).trans (hbF.mono hsz))
          clear hbF e0 e1 e2 hb0 hb1
          go_wp2_with (at_builtin; (refine append_int _ rfl (.tmp 38) (.tmp 40) rfl w2.heap.size u6 (M.runTo s inp j) y1 rfl rfl (unhide HO1) (by rw [HLen.out, HN.out]; omega) (by omega) ?_); intro v' w3 hown1 hbel1 hsz3)
          have HR : Hid (w3.ownsRow w2.heap.size 3 1 v' (M.runTo s inp (j + 1)).length (intCells (M.runTo s inp (j + 1)))) := by rw [HS.out]; exact hown1
          have HB3 := hide (hbel1 _ (unhide HB1))
          clear hown1 hbel1
          go_roundw
          case rel => exact ⟨j + 1, by omega, by go_num, unhide HR, unhide HB3⟩
          case measure => simp [intOf]; omega
        · have hjm : j = m := by omega
          subst hjm
          clear hbel hown
          go_wp2
          go_ret
          exact ⟨_, rfl, unhide HRow, unhide hfin _ (unhide HB)⟩

theorem netValues_any (s inp : ByteArray) (q : Nat) (a1 a2 : Option Addr) (cap1 cap2 : Nat) (w : World) (h : M.isImage s = true) (heq : inp.size = 2 * q) (hq4 : q ≤ 4)
    (hr1 : HoldsRow w (.slice a1 (M.bz s 2) cap1) (M.bz s 2) (intCells (bvals s 4 (3 * M.bz s 2)))) :
    Calls Try.prog 83 #[.agg #[.int .i64 (M.bz s 1), .slice a1 (M.bz s 2) cap1, .slice a2 (M.bz s 3) cap2], .string inp] w fun e w' => ∃ v, e = .returned v ∧
      HoldsRow w' v (M.runTo s inp (M.bz s 2)).length (intCells (M.runTo s inp (M.bz s 2))) ∧ Below w.heap.size w w' :=
  netValues_at s inp q _ _ _ a1 a2 cap1 cap2 w h heq hq4 rfl rfl hr1

theorem netEval_any (s inp : ByteArray) (a1 a2 : Option Addr) (cap1 cap2 : Nat) (w : World) (h : M.isImage s = true) (heq : inp.size = 2 * M.bz s 1)
    (hr1 : HoldsRow w (.slice a1 (M.bz s 2) cap1) (M.bz s 2) (intCells (bvals s 4 (3 * M.bz s 2)))) (hr2 : HoldsRow w (.slice a2 (M.bz s 3) cap2) (M.bz s 3) (intCells (bvals s (4 + 3 * M.bz s 2) (M.bz s 3)))) :
    Calls Try.prog 65 #[.agg #[.int .i64 (M.bz s 1), .slice a1 (M.bz s 2) cap1, .slice a2 (M.bz s 3) cap2], .string inp] w fun e w' => e = .returned (.string (M.evalOut s inp)) ∧ Below w.heap.size w w' := by
  obtain ⟨h0, h1, h2, h3, h4, h5, h6⟩ := M.headOk_eq (image_head h)
  have HFIN : Hid (M.outTo (M.runTo s inp (M.bz s 2)) s (4 + 3 * M.bz s 2) (M.bz s 3) = M.evalOut s inp) := rfl
  have HR1 := hide (hr1.mono ((Below.refl _ _).alloc (Nat.le_refl _) (.cells #[.int .i64 (M.bz s 1), .slice a1 (M.bz s 2) cap1, .slice a2 (M.bz s 3) cap2] 66)))
  have HR2 := hide (hr2.mono ((Below.refl _ _).alloc (Nat.le_refl _) (.cells #[.int .i64 (M.bz s 1), .slice a1 (M.bz s 2) cap1, .slice a2 (M.bz s 3) cap2] 66)))
  have HV := hide (M.runTo_vals s inp (M.bz s 2))
  clear hr1 hr2 h0 h6
  go_enter Try.func65, Try.ntmps65
  go_wp2_with fail
  refine (netValues_any s inp _ a1 a2 cap1 cap2 _ h heq h2 (unhide HR1)).mono ?_
  rintro e w2 ⟨v, rfl, hv, hb⟩
  have hb2 : w2.cell? ⟨w.heap.size, 2, none⟩ = some (.slice a2 (M.bz s 3) cap2) := (hb.cell (p := ⟨w.heap.size, 2, none⟩) (by simp)).trans (by simp)
  have HR := hide hv
  have HR2' := hide ((unhide HR2).mono hb)
  have hsz := hb.size
  simp only [World.size_alloc] at hsz
  have HB := hide (below_box (hb.mono (by simp)))
  clear hv hb heq h
  go_wp2_with fail
  refine (pick_any _ _ (M.runTo s inp (M.bz s 2)) s (4 + 3 * M.bz s 2) _ _ (unhide HV) (unhide HR) (unhide HR2') h5).mono ?_
  rintro e w1 ⟨rfl, hbF⟩
  have HB1 := hide ((unhide HB).trans (hbF.mono (by omega)))
  clear hbF hb2
  generalize M.outTo (M.runTo s inp (M.bz s 2)) s (4 + 3 * M.bz s 2) (M.bz s 3) = o at *
  go_wp2
  go_ret
  exact ⟨ret_string HFIN.out, unhide HB1⟩

def evalTxt (s inp : ByteArray) : ByteArray := if M.isImage s then (if inp.size = 2 * M.bz s 1 then M.evalOut s inp else ⟨#[]⟩) else ⟨#[]⟩
def evalNum (s inp : ByteArray) : Int := if M.isImage s then (if inp.size = 2 * M.bz s 1 then 0 else 2) else 1

theorem refEval_any (s inp : ByteArray) (w : World) (hs : s.size ≤ maxLen) (hi : inp.size ≤ maxLen) :
    Calls Try.prog 16 #[.string s, .string inp] w fun e w' => e = .returned (.tuple #[.string (evalTxt s inp), .int .i64 (evalNum s inp)]) ∧ Below w.heap.size w w' := by
  cases h : M.isImage s
  · have e1 : evalTxt s inp = ⟨#[]⟩ := by unfold evalTxt; rw [h]; rfl
    have e2 : evalNum s inp = 1 := by unfold evalNum; rw [h]; rfl
    rw [e1, e2]
    exact refEval_no s inp w hs h
  · by_cases hq : inp.size = 2 * M.bz s 1
    · have e1 : evalTxt s inp = M.evalOut s inp := by unfold evalTxt; rw [h, if_pos rfl, if_pos hq]
      have e2 : evalNum s inp = 0 := by unfold evalNum; rw [h, if_pos rfl, if_pos hq]
      rw [e1, e2]
      exact refEval_yes s inp w hs h hq
    · have e1 : evalTxt s inp = ⟨#[]⟩ := by unfold evalTxt; rw [h, if_pos rfl, if_neg hq]
      have e2 : evalNum s inp = 2 := by unfold evalNum; rw [h, if_pos rfl, if_neg hq]
      rw [e1, e2]
      exact refEval_input s inp w hs hi h hq

theorem ret_two {a b : ByteArray} {c d : Int} (h1 : a = b) (h2 : c = d) : Ending.returned (.tuple #[.string a, .int .i64 c]) = .returned (.tuple #[.string b, .int .i64 d]) := by rw [h1, h2]

theorem netAnswer_any (s inp : ByteArray) (w : World) (hs : s.size ≤ maxLen) (hi : inp.size ≤ maxLen) :
    Calls Try.prog 40 #[.string s, .string inp] w fun e w' => e = .returned (.tuple #[.string (evalTxt s inp), .int .i64 (evalNum s inp)]) ∧ Below w.heap.size w w' := by
  cases h : M.isImage s
  · have e1 : Hid (evalTxt s inp = ⟨#[]⟩) := by unfold evalTxt; rw [h]; rfl
    have e2 : Hid (evalNum s inp = 1) := by unfold evalNum; rw [h]; rfl
    go_enter Try.func40, Try.ntmps40
    go_wp2_with fail
    refine (parse_no s _ hs h).mono ?_
    clear h
    rintro e w' ⟨rfl, hb⟩
    go_wp2
    go_ret2
    exact ⟨ret_two e1.out.symm e2.out.symm, hb.alloc hb.size _⟩
  · have bz1 := M.bz_lt s 1
    by_cases hq : inp.size = 2 * M.bz s 1
    · have e1 : Hid (evalTxt s inp = M.evalOut s inp) := by unfold evalTxt; rw [h, if_pos rfl, if_pos hq]; rfl
      have e2 : Hid (evalNum s inp = 0) := by unfold evalNum; rw [h, if_pos rfl, if_pos hq]; rfl
      have HQ := hide hq
      clear hq
      go_enter Try.func40, Try.ntmps40
      go_wp2_with fail
      refine (parse_ok s _ hs h).mono ?_
      have HH := hide h
      clear h
      rintro e w1 ⟨a1, cap1, a2, cap2, rfl, hr1, hr2, hb⟩
      have HB := hide hb
      have HR1 := hide (hr1.mono ((Below.refl _ _).alloc (Nat.le_refl _) (.cells #[.int .i64 (M.bz s 1), .slice a1 (M.bz s 2) cap1, .slice a2 (M.bz s 3) cap2] 66)))
      have HR2 := hide (hr2.mono ((Below.refl _ _).alloc (Nat.le_refl _) (.cells #[.int .i64 (M.bz s 1), .slice a1 (M.bz s 2) cap1, .slice a2 (M.bz s 3) cap2] 66)))
      have hsz := hb.size
      clear hb hr1 hr2
      go_wp2_with fail
      refine (takes_any _ _ _ inp _ (by omega) hi).mono ?_
      rintro e w2 ⟨rfl, hb2⟩
      rw [show decide (inp.size = 2 * M.bz s 1) = true from decide_eq_true HQ.out]
      have c0 : w2.cell? ⟨w1.heap.size, 0, none⟩ = some (.int .i64 (M.bz s 1)) := (hb2.cell (p := ⟨w1.heap.size, 0, none⟩) (by simp)).trans (by simp)
      have c1 : w2.cell? ⟨w1.heap.size, 1, none⟩ = some (.slice a1 (M.bz s 2) cap1) := (hb2.cell (p := ⟨w1.heap.size, 1, none⟩) (by simp)).trans (by simp)
      have c2 : w2.cell? ⟨w1.heap.size, 2, none⟩ = some (.slice a2 (M.bz s 3) cap2) := (hb2.cell (p := ⟨w1.heap.size, 2, none⟩) (by simp)).trans (by simp)
      have HS1 := hide ((unhide HR1).mono hb2)
      have HS2 := hide ((unhide HR2).mono hb2)
      have HB2 : Hid (Below w.heap.size w w2) := ((unhide HB).alloc hsz _).trans (hb2.mono (by simp; omega))
      have hsz2 := hb2.size
      simp only [World.size_alloc] at hsz2
      clear hb2
      go_wp2_with fail
      refine (netEval_any s inp a1 a2 cap1 cap2 _ (unhide HH) (unhide HQ) (unhide HS1) (unhide HS2)).mono ?_
      rintro e w3 ⟨rfl, hb3⟩
      have HB3 := hide ((unhide HB2).trans (hb3.mono (by omega)))
      clear hb3
      go_wp2
      go_ret2
      exact ⟨ret_two e1.out.symm e2.out.symm, unhide HB3⟩
    · have e1 : Hid (evalTxt s inp = ⟨#[]⟩) := by unfold evalTxt; rw [h, if_pos rfl, if_neg hq]; rfl
      have e2 : Hid (evalNum s inp = 2) := by unfold evalNum; rw [h, if_pos rfl, if_neg hq]; rfl
      have HQ := hide hq
      clear hq
      go_enter Try.func40, Try.ntmps40
      go_wp2_with fail
      refine (parse_ok s _ hs h).mono ?_
      clear h
      rintro e w1 ⟨a1, cap1, a2, cap2, rfl, hr1, hr2, hb⟩
      have HB := hide hb
      have hsz := hb.size
      clear hb hr1 hr2
      go_wp2_with fail
      refine (takes_any _ _ _ inp _ (by omega) hi).mono ?_
      rintro e w2 ⟨rfl, hb2⟩
      rw [show decide (inp.size = 2 * M.bz s 1) = false from decide_eq_false HQ.out]
      have HB2 : Hid (Below w.heap.size w w2) := ((unhide HB).alloc hsz _).trans (hb2.mono (by simp; omega))
      clear hb2
      go_wp2
      go_ret2
      exact ⟨ret_two e1.out.symm e2.out.symm, unhide HB2⟩

theorem slotsCheck_any (s : ByteArray) (w : World) (hs : s.size ≤ maxLen) :
    Calls Try.prog 14 #[.string s] w fun e w' => e = .returned (.int .i64 (checkNum s)) ∧ Below w.heap.size w w' := by
  go_enter Try.func14, Try.ntmps14
  go_wp2_with fail
  refine (netCheck_any s _ hs).mono ?_
  rintro e w1 ⟨rfl, hb⟩
  generalize hx : checkNum s = x at *
  have HX := hide hx
  clear hx
  go_wp2
  go_ret
  exact ⟨ret_int HX.out.symm, hb⟩
theorem slotsEval_any (s inp : ByteArray) (w : World) (hs : s.size ≤ maxLen) (hi : inp.size ≤ maxLen) :
    Calls Try.prog 15 #[.string s, .string inp] w fun e w' => e = .returned (.tuple #[.string (evalTxt s inp), .int .i64 (evalNum s inp)]) ∧ Below w.heap.size w w' := by
  go_enter Try.func15, Try.ntmps15
  go_wp2_with fail
  refine (netAnswer_any s inp _ hs hi).mono ?_
  rintro e w1 ⟨rfl, hb⟩
  generalize hx : evalTxt s inp = x at *
  generalize hy : evalNum s inp = y at *
  have HX := hide hx
  have HY := hide hy
  clear hx hy
  go_wp2
  refine bodyPost_ret (v := .tuple #[.string x, .int .i64 y]) (by simp [results, Try.results15, go_sem]) rfl ⟨ret_two HX.out.symm HY.out.symm, hb⟩

theorem num_any (n : Int) (w : World) : Calls Try.prog 17 #[.int .i64 n] w fun e w' => e = .returned (.int .i64 n) ∧ w = w' := by
  go_enter Try.func17, Try.ntmps17
  go_wp2
  go_ret
  exact ⟨rfl, rfl⟩
end Go.Proofs.Ytjfmiomopfjecaa

/- net.Eval, slots.Check, slots.Eval. -/
import Derived.Test.YtmblkbadfpjjhaaNetParse
namespace Go.Proofs.Ytmblkbadfpjjhaa
open Go.RowKit

theorem parse_ok (s : ByteArray) (w : World) (hs : s.size ≤ maxLen) (h : M.isImage s = true) :
    Calls Try.prog 27 #[.string s] w fun e w' => ∃ a1 cap1 a2 cap2, e = .returned (.tuple #[.agg #[.int .i64 (M.bz s 1), .slice a1 (M.bz s 2) cap1, .slice a2 (M.bz s 3) cap2], .bool true]) ∧
      HoldsRow w' (.slice a1 (M.bz s 2) cap1) (M.bz s 2) (intCells (bvals s 4 (3 * M.bz s 2))) ∧ HoldsRow w' (.slice a2 (M.bz s 3) cap2) (M.bz s 3) (intCells (bvals s (4 + 3 * M.bz s 2) (M.bz s 3))) ∧ Below w.heap.size w w' := by
  have hh := image_head h
  have hsd : soundOk s = true := by
    unfold M.isImage at h
    rw [hh] at h
    exact h
  refine (parse_any s w hs hh).mono fun e w' ⟨h1, _, h3⟩ => ?_
  obtain ⟨v1, v2, he, r1, r2⟩ := h1 hsd
  obtain ⟨a1, cap1, e1, _, _, _⟩ := r1.shape
  obtain ⟨a2, cap2, e2, _, _, _⟩ := r2.shape
  subst e1 e2
  exact ⟨a1, cap1, a2, cap2, he, r1, r2, h3⟩
theorem parse_no (s : ByteArray) (w : World) (hs : s.size ≤ maxLen) (h : M.isImage s = false) :
    Calls Try.prog 27 #[.string s] w fun e w' => e = .returned (.tuple #[.agg #[.int .i64 0, .slice none 0 0, .slice none 0 0], .bool false]) ∧ Below w.heap.size w w' := by
  cases hh : M.headOk s
  · exact parse_shape s w hs hh
  · refine (parse_any s w hs hh).mono fun e w' ⟨_, h2, h3⟩ => ⟨h2 ?_, h3⟩
    unfold M.isImage at h
    rw [hh] at h
    exact h

theorem slotsCheck_any (s : ByteArray) (w : World) (hs : s.size ≤ maxLen) :
    Calls Try.prog 9 #[.string s] w fun e w' => e = .returned (.int .i64 (checkNum s)) ∧ Below w.heap.size w w' := by
  have HC := hide (show checkNum s = if M.isImage s then 0 else 1 from rfl)
  cases h : M.isImage s
  · have HE : Hid (checkNum s = 1) := by rw [HC.out, h]; rfl
    go_enter Try.func9, Try.ntmps9
    go_wp2_with fail
    refine (parse_no s _ hs h).mono ?_
    clear h
    rintro e w' ⟨rfl, hb⟩
    go_wp2
    go_ret
    exact ⟨ret_int HE.out.symm, hb.alloc hb.size _⟩
  · have HE : Hid (checkNum s = 0) := by rw [HC.out, h]; rfl
    go_enter Try.func9, Try.ntmps9
    go_wp2_with fail
    refine (parse_ok s _ hs h).mono ?_
    clear h
    rintro e w' ⟨a1, cap1, a2, cap2, rfl, _, _, hb⟩
    go_wp2
    go_ret
    exact ⟨ret_int HE.out.symm, hb.alloc hb.size _⟩

theorem takes_any (n : Nat) (v1 v2 : Value) (inp : ByteArray) (w : World) (hn : n ≤ 255) (_hi : inp.size ≤ maxLen) :
    Calls Try.prog 28 #[.agg #[.int .i64 n, v1, v2], .string inp] w fun e w' => e = .returned (.bool (decide (inp.size = 2 * n))) ∧ Below w.heap.size w w' := by
  unfold maxLen at _hi
  have HE : Hid (((inp.size : Int) == 2 * (n : Int)) = decide (inp.size = 2 * n)) := by
    show _ = _
    rw [Bool.eq_iff_iff]; simp; omega
  go_enter Try.func28, Try.ntmps28
  go_wp2
  go_ret
  exact ⟨ret_bool HE.out, (Below.refl _ _).alloc (Nat.le_refl _) _⟩

set_option maxHeartbeats 800000 in
theorem netEval_any (s inp : ByteArray) (a1 a2 : Option Addr) (cap1 cap2 : Nat) (w : World) (h : M.isImage s = true) (heq : inp.size = 2 * M.bz s 1)
    (hr1 : HoldsRow w (.slice a1 (M.bz s 2) cap1) (M.bz s 2) (intCells (bvals s 4 (3 * M.bz s 2)))) (hr2 : HoldsRow w (.slice a2 (M.bz s 3) cap2) (M.bz s 3) (intCells (bvals s (4 + 3 * M.bz s 2) (M.bz s 3)))) :
    Calls Try.prog 29 #[.agg #[.int .i64 (M.bz s 1), .slice a1 (M.bz s 2) cap1, .slice a2 (M.bz s 3) cap2], .string inp] w fun e w' => e = .returned (.string (M.evalOut s inp)) ∧ Below w.heap.size w w' := by
  obtain ⟨h0, h1, h2, h3, h4, h5, h6⟩ := M.headOk_eq (image_head h)
  have HOP : Hid (∀ k, k < M.bz s 2 → M.okOp (M.bz s (4 + 3 * k)) (M.bz s (5 + 3 * k)) (M.bz s (6 + 3 * k)) (M.bz s 1 + k) = true) := fun k hk => image_nodes h hk
  have HR0 : Hid (M.insOf inp (M.bz s 1) = M.runTo s inp 0) := rfl
  have HFIN : Hid (M.outTo (M.runTo s inp (M.bz s 2)) s (4 + 3 * M.bz s 2) (M.bz s 3) = M.evalOut s inp) := rfl
  have HEQ := hide heq
  have HB13 : Hid (0 < M.bz s 2 → ∃ g, a1 = some ⟨g, 0, none⟩ ∧ g < w.heap.size ∧ ∀ j u, (intCells (bvals s 4 (3 * M.bz s 2)))[j]? = some u → w.cell? ⟨g, j, none⟩ = some u) := by
    obtain ⟨a, c, e, _, _, hx⟩ := hr1.shape
    simp only [Value.slice.injEq] at e
    obtain ⟨rfl, _, _⟩ := e
    exact hx
  have hcap : cap1 ≤ maxLen ∧ M.bz s 2 ≤ cap1 := by
    obtain ⟨a, c, e, h1, h2, hx⟩ := hr1.shape
    simp only [Value.slice.injEq] at e
    obtain ⟨_, _, rfl⟩ := e
    exact ⟨h2, h1⟩
  obtain ⟨hcap1, hcap2⟩ := hcap
  unfold maxLen at hcap1
  have HR2 := hide hr2
  have hval := hide (fun n => wordValues_any inp (M.bz s 1) n heq (by omega))
  clear h h0 h6 heq hr1 hr2
  go_enter Try.func29, Try.ntmps29
  go_wp2_with fail
  refine (unhide hval _).mono ?_
  rintro e w2 ⟨v, rfl, hown, hb2⟩
  have HB2 : Hid (Below (w.heap.size + 1) (w.alloc (.cells #[.int .i64 (M.bz s 1), .slice a1 (M.bz s 2) cap1, .slice a2 (M.bz s 3) cap2] 48)) w2) := hb2.mono (by simp)
  have HO2 : Hid (w2.ownsRow (w.heap.size + 1) 3 1 v (M.runTo s inp 0).length (intCells (M.runTo s inp 0))) := by
    rw [← HR0.out]
    have e : (w.alloc (.cells #[.int .i64 (M.bz s 1), .slice a1 (M.bz s 2) cap1, .slice a2 (M.bz s 3) cap2] 48)).heap.size = w.heap.size + 1 := by simp
    rw [e] at hown
    exact hown
  clear hown hb2 HR0
  generalize M.bz s 1 = n at *
  generalize M.bz s 2 = m at *
  generalize M.bz s 3 = c at *
  go_wp2_with fail
  go_loopw [5, 6] (fun v i wr => ∃ k : Nat, k ≤ m ∧ i = .int .i64 k ∧ wr.ownsRow (w.heap.size + 1) 3 1 v (M.runTo s inp k).length (intCells (M.runTo s inp k)) ∧ Below (w.heap.size + 1) (w.alloc (.cells #[.int .i64 n, .slice a1 m cap1, .slice a2 c cap2] 48)) wr) (fun _ i _ => m - (intOf i).toNat)
  case atStart => exact ⟨0, by omega, rfl, unhide HO2, unhide HB2⟩
  case round =>
    clear HO2 HB2
    obtain ⟨k, hk, rfl, hown, hbel⟩ := hrel
    have hb0 : wr.cell? ⟨w.heap.size, 0, none⟩ = some (.int .i64 n) := (hbel.cell (p := ⟨w.heap.size, 0, none⟩) (by simp)).trans (by simp)
    have hb1 : wr.cell? ⟨w.heap.size, 1, none⟩ = some (.slice a1 m cap1) := (hbel.cell (p := ⟨w.heap.size, 1, none⟩) (by simp)).trans (by simp)
    have hb2 : wr.cell? ⟨w.heap.size, 2, none⟩ = some (.slice a2 c cap2) := (hbel.cell (p := ⟨w.heap.size, 2, none⟩) (by simp)).trans (by simp)
    have hsz := hbel.size
    simp only [World.size_alloc] at hsz
    have HV := hide (M.runTo_vals s inp k)
    have HRow := hide (holdsRow_own hown)
    have HLen := hide (M.runTo_length s inp k)
    have HO := hide hown
    have HB := hide hbel
    by_cases hlt : k < m
    · obtain ⟨g, rfl, hg, hcell⟩ := unhide HB13 (by omega)
      have hold : ∀ j, wr.cell? ⟨g, j, none⟩ = w.cell? ⟨g, j, none⟩ := fun j => (hbel.cell (p := ⟨g, j, none⟩) (by show g < _; omega)).trans (World.cell?_alloc_lt _ _ _ hg)
      have e0 := (hold (k * 3)).trans (hcell (k * 3) _ (bvals_at s 4 (3 * m) (k * 3) (by omega)))
      have e1 := (hold (k * 3 + 1)).trans (hcell (k * 3 + 1) _ (bvals_at s 4 (3 * m) (k * 3 + 1) (by omega)))
      have e2 := (hold (k * 3 + 2)).trans (hcell (k * 3 + 2) _ (bvals_at s 4 (3 * m) (k * 3 + 2) (by omega)))
      rw [show 4 + k * 3 = 4 + 3 * k from by omega] at e0
      rw [show 4 + (k * 3 + 1) = 5 + 3 * k from by omega] at e1
      rw [show 4 + (k * 3 + 2) = 6 + 3 * k from by omega] at e2
      have b0 := M.bz_lt s (4 + 3 * k)
      have b1 := M.bz_lt s (5 + 3 * k)
      have b2 := M.bz_lt s (6 + 3 * k)
      have hop := okOp_le (HOP.out k hlt)
      have HS : Hid (M.runTo s inp (k + 1) = M.runTo s inp k ++ [M.nodeVal (M.runTo s inp k) (M.bz s (4 + 3 * k)) (M.bz s (5 + 3 * k)) (M.bz s (6 + 3 * k))]) := rfl
      clear hold hcell hbel hown HOP
      generalize M.bz s (4 + 3 * k) = x at *
      generalize M.bz s (5 + 3 * k) = y at *
      generalize M.bz s (6 + 3 * k) = z at *
      have HP := hide hop
      clear hop
      go_wp2_with fail
      refine (nodeValue_any x y z _ (M.runTo s inp k) _ (unhide HV) (unhide HRow) b1 b2 (unhide HP).1 (unhide HP).2).mono ?_
      rintro e w1 ⟨rfl, hbF⟩
      have hsz1 := hbF.size
      generalize M.nodeVal (M.runTo s inp k) x y z = q at *
      have HO1 := hide (ownsRow_below (unhide HO) hbF)
      have HB1 := hide ((unhide HB).trans (hbF.mono hsz))
      clear hbF e0 e1 e2 hb0 hb1 hb2
      go_wp2_with (at_builtin; (refine append_int _ rfl (.tmp 24) (.tmp 26) rfl (w.heap.size + 1) u5 (M.runTo s inp k) q rfl rfl (unhide HO1) (by rw [HLen.out]; have := M.bz_lt s 1; omega) (by omega) ?_); intro v' w3 hown1 hbel1 hsz3)
      have HR : Hid (w3.ownsRow (w.heap.size + 1) 3 1 v' (M.runTo s inp (k + 1)).length (intCells (M.runTo s inp (k + 1)))) := by rw [HS.out]; exact hown1
      have HB3 := hide (hbel1 _ (unhide HB1))
      clear hown1 hbel1
      go_roundw
      case rel => exact ⟨k + 1, by omega, by go_num, unhide HR, unhide HB3⟩
      case measure => simp [intOf]; omega
    · have hkm : k = m := by omega
      subst hkm
      have HR2' := hide ((unhide HR2).mono (below_box hbel))
      clear hbel hown
      go_wp2_with fail
      refine (pick_any _ _ (M.runTo s inp k) s (4 + 3 * k) c _ (unhide HV) (unhide HRow) (unhide HR2') h5).mono ?_
      rintro e w1 ⟨rfl, hbF⟩
      have HEND := hide HFIN.out
      have HB1 := hide ((unhide HB).trans (hbF.mono hsz))
      clear hbF hb0 hb1 hb2
      generalize M.outTo (M.runTo s inp k) s (4 + 3 * k) c = o at *
      go_wp2
      go_ret
      exact ⟨ret_string HEND.out, below_box (unhide HB1)⟩

def evalTxt (s inp : ByteArray) : ByteArray := if M.isImage s then (if inp.size = 2 * M.bz s 1 then M.evalOut s inp else ⟨#[]⟩) else ⟨#[]⟩
def evalNum (s inp : ByteArray) : Int := if M.isImage s then (if inp.size = 2 * M.bz s 1 then 0 else 2) else 1

theorem refEval_any (s inp : ByteArray) (w : World) (hs : s.size ≤ maxLen) (hi : inp.size ≤ maxLen) :
    Calls Try.prog 11 #[.string s, .string inp] w fun e w' => e = .returned (.tuple #[.string (evalTxt s inp), .int .i64 (evalNum s inp)]) ∧ Below w.heap.size w w' := by
  cases h : M.isImage s
  · have e1 : evalTxt s inp = ⟨#[]⟩ := by unfold evalTxt; rw [h]; rfl
    have e2 : evalNum s inp = 1 := by unfold evalNum; rw [h]; rfl
    rw [e1, e2]
    exact refEval_no s inp w hs h
  · by_cases hq : inp.size = 2 * M.bz s 1
    · have e1 : evalTxt s inp = M.evalOut s inp := by unfold evalTxt; rw [h, if_pos rfl, if_pos hq]
      have e2 : evalNum s inp = 0 := by unfold evalNum; rw [h, if_pos rfl, if_pos hq]
      rw [e1, e2]
      exact refEval_yes s inp w hs h hq
    · have e1 : evalTxt s inp = ⟨#[]⟩ := by unfold evalTxt; rw [h, if_pos rfl, if_neg hq]
      have e2 : evalNum s inp = 2 := by unfold evalNum; rw [h, if_pos rfl, if_neg hq]
      rw [e1, e2]
      exact refEval_input s inp w hs hi h hq

theorem ret_two {a b : ByteArray} {c d : Int} (h1 : a = b) (h2 : c = d) : Ending.returned (.tuple #[.string a, .int .i64 c]) = .returned (.tuple #[.string b, .int .i64 d]) := by rw [h1, h2]

theorem slotsEval_any (s inp : ByteArray) (w : World) (hs : s.size ≤ maxLen) (hi : inp.size ≤ maxLen) :
    Calls Try.prog 10 #[.string s, .string inp] w fun e w' => e = .returned (.tuple #[.string (evalTxt s inp), .int .i64 (evalNum s inp)]) ∧ Below w.heap.size w w' := by
  cases h : M.isImage s
  · have e1 : Hid (evalTxt s inp = ⟨#[]⟩) := by unfold evalTxt; rw [h]; rfl
    have e2 : Hid (evalNum s inp = 1) := by unfold evalNum; rw [h]; rfl
    go_enter Try.func10, Try.ntmps10
    go_wp2_with fail
    refine (parse_no s _ hs h).mono ?_
    clear h
    rintro e w' ⟨rfl, hb⟩
    go_wp2
    go_ret2
    exact ⟨ret_two e1.out.symm e2.out.symm, hb.alloc hb.size _⟩
  · have bz1 := M.bz_lt s 1
    by_cases hq : inp.size = 2 * M.bz s 1
    · have e1 : Hid (evalTxt s inp = M.evalOut s inp) := by unfold evalTxt; rw [h, if_pos rfl, if_pos hq]; rfl
      have e2 : Hid (evalNum s inp = 0) := by unfold evalNum; rw [h, if_pos rfl, if_pos hq]; rfl
      have HQ := hide hq
      clear hq
      go_enter Try.func10, Try.ntmps10
      go_wp2_with fail
      refine (parse_ok s _ hs h).mono ?_
      have HH := hide h
      clear h
      rintro e w1 ⟨a1, cap1, a2, cap2, rfl, hr1, hr2, hb⟩
      have HB := hide hb
      have HR1 := hide (hr1.mono ((Below.refl _ _).alloc (Nat.le_refl _) (.cells #[.int .i64 (M.bz s 1), .slice a1 (M.bz s 2) cap1, .slice a2 (M.bz s 3) cap2] 48)))
      have HR2 := hide (hr2.mono ((Below.refl _ _).alloc (Nat.le_refl _) (.cells #[.int .i64 (M.bz s 1), .slice a1 (M.bz s 2) cap1, .slice a2 (M.bz s 3) cap2] 48)))
      have hsz := hb.size
      clear hb hr1 hr2
      go_wp2_with fail
      refine (takes_any _ _ _ inp _ (by omega) hi).mono ?_
      rintro e w2 ⟨rfl, hb2⟩
      rw [show decide (inp.size = 2 * M.bz s 1) = true from decide_eq_true HQ.out]
      have c0 : w2.cell? ⟨w1.heap.size, 0, none⟩ = some (.int .i64 (M.bz s 1)) := (hb2.cell (p := ⟨w1.heap.size, 0, none⟩) (by simp)).trans (by simp)
      have c1 : w2.cell? ⟨w1.heap.size, 1, none⟩ = some (.slice a1 (M.bz s 2) cap1) := (hb2.cell (p := ⟨w1.heap.size, 1, none⟩) (by simp)).trans (by simp)
      have c2 : w2.cell? ⟨w1.heap.size, 2, none⟩ = some (.slice a2 (M.bz s 3) cap2) := (hb2.cell (p := ⟨w1.heap.size, 2, none⟩) (by simp)).trans (by simp)
      have HS1 := hide ((unhide HR1).mono hb2)
      have HS2 := hide ((unhide HR2).mono hb2)
      have HB2 : Hid (Below w.heap.size w w2) := ((unhide HB).alloc hsz _).trans (hb2.mono (by simp; omega))
      have hsz2 := hb2.size
      simp only [World.size_alloc] at hsz2
      clear hb2
      go_wp2_with fail
      refine (netEval_any s inp a1 a2 cap1 cap2 _ (unhide HH) (unhide HQ) (unhide HS1) (unhide HS2)).mono ?_
      rintro e w3 ⟨rfl, hb3⟩
      have HB3 := hide ((unhide HB2).trans (hb3.mono (by omega)))
      clear hb3
      go_wp2
      go_ret2
      exact ⟨ret_two e1.out.symm e2.out.symm, unhide HB3⟩
    · have e1 : Hid (evalTxt s inp = ⟨#[]⟩) := by unfold evalTxt; rw [h, if_pos rfl, if_neg hq]; rfl
      have e2 : Hid (evalNum s inp = 2) := by unfold evalNum; rw [h, if_pos rfl, if_neg hq]; rfl
      have HQ := hide hq
      clear hq
      go_enter Try.func10, Try.ntmps10
      go_wp2_with fail
      refine (parse_ok s _ hs h).mono ?_
      clear h
      rintro e w1 ⟨a1, cap1, a2, cap2, rfl, hr1, hr2, hb⟩
      have HB := hide hb
      have hsz := hb.size
      clear hb hr1 hr2
      go_wp2_with fail
      refine (takes_any _ _ _ inp _ (by omega) hi).mono ?_
      rintro e w2 ⟨rfl, hb2⟩
      rw [show decide (inp.size = 2 * M.bz s 1) = false from decide_eq_false HQ.out]
      have HB2 : Hid (Below w.heap.size w w2) := ((unhide HB).alloc hsz _).trans (hb2.mono (by simp; omega))
      clear hb2
      go_wp2
      go_ret2
      exact ⟨ret_two e1.out.symm e2.out.symm, unhide HB2⟩

theorem num_any (n : Int) (w : World) : Calls Try.prog 12 #[.int .i64 n] w fun e w' => e = .returned (.int .i64 n) ∧ w = w' := by
  go_enter Try.func12, Try.ntmps12
  go_wp2
  go_ret
  exact ⟨rfl, rfl⟩
end Go.Proofs.Ytmblkbadfpjjhaa

/- Which operands may stand: node.Fits and the document's allowed; and what a node's value is: node.Value. -/
import Derived.Test.YtjfmiomopfjecaaNetRows
namespace Go.Proofs.Ytjfmiomopfjecaa
open Go.RowKit

theorem okOp_le {op a b n : Nat} (h : M.okOp op a b n = true) : op ≤ 7 ∧ (op = 6 → b ≤ 15) := by
  unfold M.okOp at h
  by_cases e0 : op = 0
  · omega
  · rw [if_neg e0] at h
    by_cases e5 : op ≤ 5
    · omega
    · rw [if_neg e5] at h
      by_cases e6 : op = 6
      · rw [if_pos e6] at h; simp at h; omega
      · rw [if_neg e6] at h; simp at h; omega
theorem nodeValue_any (op a b : Nat) (v : Value) (l : List Int) (w : World) (hl : M.Vals l) (h : HoldsRow w v l.length (intCells l)) (ha : a < 256) (hb : b < 256) (h7 : op ≤ 7) (h6 : op = 6 → b ≤ 15) :
    Calls Try.prog 76 #[.agg #[.int .i64 op, .int .i64 a, .int .i64 b], v] w fun e w' => e = .returned (.int .i64 (M.nodeVal l op a b)) ∧ Below w.heap.size w w' := by
  have hbel : ∀ o, Below w.heap.size w (w.alloc o) := fun o => (Below.refl _ _).alloc (Nat.le_refl _) o
  have hh : ∀ o, HoldsRow (w.alloc o) v l.length (intCells l) := fun o => h.mono (hbel o)
  have HH := hide hh
  have HB := hide hbel
  have hx := hl.getD a
  have hy := hl.getD b
  clear hh hbel h
  have hops : op = 0 ∨ (1 ≤ op ∧ op ≤ 5) ∨ op = 6 ∨ op = 7 := by omega
  rcases hops with rfl | ⟨h1, h5⟩ | rfl | rfl
  · have HE : Hid (M.nodeVal l 0 a b = M.wordVal ((a : Int) * 256 + b)) := rfl
    go_enter Try.func76, Try.ntmps76
    go_wp2_with fail
    refine (wordAt_any v l a _ (unhide HH _) (by omega)).mono ?_
    rintro e w' ⟨rfl, rfl⟩
    generalize l.getD a 0 = x at *
    go_wp2_with fail
    refine (wordValue_any _ _ _ (by omega) (by omega) (by omega) (by omega)).mono ?_
    rintro e w' ⟨rfl, rfl⟩
    go_wp2
    go_ret
    exact ⟨ret_int HE.out.symm, unhide HB _⟩
  · have HE : Hid (M.nodeVal l op a b = M.nodeDo op (l.getD a 0) (l.getD b 0) a b) := rfl
    have e0 : ((op : Int) == 0) = false := beq_eq_false_iff_ne.2 (by omega)
    have e6 : ((op : Int) == 6) = false := beq_eq_false_iff_ne.2 (by omega)
    have e7 : ((op : Int) == 7) = false := beq_eq_false_iff_ne.2 (by omega)
    go_enter Try.func76, Try.ntmps76
    go_wp2_with fail
    refine (wordAt_any v l a _ (unhide HH _) (by omega)).mono ?_
    rintro e w' ⟨rfl, rfl⟩
    generalize l.getD a 0 = x at *
    go_wp2_with fail
    refine (wordAt_any v l b _ (unhide HH _) (by omega)).mono ?_
    rintro e w' ⟨rfl, rfl⟩
    generalize l.getD b 0 = y at *
    go_wp2_with fail
    refine (ofTwo_any op x y a b _ hx hy h1 h5).mono ?_
    rintro e w' ⟨rfl, rfl⟩
    go_wp2
    go_ret
    exact ⟨ret_int HE.out.symm, unhide HB _⟩
  · have HE : Hid (M.nodeVal l 6 a b = l.getD a 0 / 2 ^ b) := rfl
    have hb15 := h6 rfl
    go_enter Try.func76, Try.ntmps76
    go_wp2_with fail
    refine (wordAt_any v l a _ (unhide HH _) (by omega)).mono ?_
    rintro e w' ⟨rfl, rfl⟩
    generalize l.getD a 0 = x at *
    go_wp2_with fail
    refine (nodeShift_any x b _ hx hb15).mono ?_
    rintro e w' ⟨rfl, rfl⟩
    go_wp2
    go_ret
    exact ⟨ret_int HE.out.symm, unhide HB _⟩
  · have HE : Hid (M.nodeVal l 7 a b = M.mx (l.getD a 0) 0) := rfl
    go_enter Try.func76, Try.ntmps76
    go_wp2_with fail
    refine (wordAt_any v l a _ (unhide HH _) (by omega)).mono ?_
    rintro e w' ⟨rfl, rfl⟩
    generalize l.getD a 0 = x at *
    go_wp2_with fail
    refine (nodeGreater_any x 0 _).mono ?_
    rintro e w' ⟨rfl, rfl⟩
    go_wp2
    go_ret
    exact ⟨ret_int HE.out.symm, unhide HB _⟩
theorem fits_any (op a b n : Nat) (w : World) (_h1 : op < 256) (_h2 : a < 256) (_h3 : b < 256) (_h4 : n ≤ 65535) :
    Calls Try.prog 100 #[.agg #[.int .i64 op, .int .i64 a, .int .i64 b], .int .i64 n] w fun e w' => e = .returned (.bool (M.okOp op a b n)) ∧ Below w.heap.size w w' := by
  have hops : op = 0 ∨ op = 1 ∨ op = 2 ∨ op = 3 ∨ op = 4 ∨ op = 5 ∨ op = 6 ∨ op = 7 ∨ 8 ≤ op := by omega
  rcases hops with rfl | rfl | rfl | rfl | rfl | rfl | rfl | rfl | h8
  · have HO : Hid (M.okOp 0 a b n = true) := rfl
    go_enter Try.func100, Try.ntmps100
    go_wp2
    go_ret
    exact ⟨ret_bool HO.out.symm, (Below.refl _ _).alloc (Nat.le_refl _) _⟩
  · have HO : Hid (M.okOp 1 a b n = (decide (a < n) && decide (b < n))) := rfl
    by_cases ha : a < n
    · by_cases hb : b < n
      · go_enter Try.func100, Try.ntmps100
        go_wp2
        go_ret
        exact ⟨ret_bool (by rw [HO.out]; simp [ha, hb]), (Below.refl _ _).alloc (Nat.le_refl _) _⟩
      · go_enter Try.func100, Try.ntmps100
        go_wp2
        go_ret
        exact ⟨ret_bool (by rw [HO.out]; simp [ha, hb]), (Below.refl _ _).alloc (Nat.le_refl _) _⟩
    · go_enter Try.func100, Try.ntmps100
      go_wp2
      go_ret
      exact ⟨ret_bool (by rw [HO.out]; simp [ha]), (Below.refl _ _).alloc (Nat.le_refl _) _⟩
  · have HO : Hid (M.okOp 2 a b n = (decide (a < n) && decide (b < n))) := rfl
    by_cases ha : a < n
    · by_cases hb : b < n
      · go_enter Try.func100, Try.ntmps100
        go_wp2
        go_ret
        exact ⟨ret_bool (by rw [HO.out]; simp [ha, hb]), (Below.refl _ _).alloc (Nat.le_refl _) _⟩
      · go_enter Try.func100, Try.ntmps100
        go_wp2
        go_ret
        exact ⟨ret_bool (by rw [HO.out]; simp [ha, hb]), (Below.refl _ _).alloc (Nat.le_refl _) _⟩
    · go_enter Try.func100, Try.ntmps100
      go_wp2
      go_ret
      exact ⟨ret_bool (by rw [HO.out]; simp [ha]), (Below.refl _ _).alloc (Nat.le_refl _) _⟩
  · have HO : Hid (M.okOp 3 a b n = (decide (a < n) && decide (b < n))) := rfl
    by_cases ha : a < n
    · by_cases hb : b < n
      · go_enter Try.func100, Try.ntmps100
        go_wp2
        go_ret
        exact ⟨ret_bool (by rw [HO.out]; simp [ha, hb]), (Below.refl _ _).alloc (Nat.le_refl _) _⟩
      · go_enter Try.func100, Try.ntmps100
        go_wp2
        go_ret
        exact ⟨ret_bool (by rw [HO.out]; simp [ha, hb]), (Below.refl _ _).alloc (Nat.le_refl _) _⟩
    · go_enter Try.func100, Try.ntmps100
      go_wp2
      go_ret
      exact ⟨ret_bool (by rw [HO.out]; simp [ha]), (Below.refl _ _).alloc (Nat.le_refl _) _⟩
  · have HO : Hid (M.okOp 4 a b n = (decide (a < n) && decide (b < n))) := rfl
    by_cases ha : a < n
    · by_cases hb : b < n
      · go_enter Try.func100, Try.ntmps100
        go_wp2
        go_ret
        exact ⟨ret_bool (by rw [HO.out]; simp [ha, hb]), (Below.refl _ _).alloc (Nat.le_refl _) _⟩
      · go_enter Try.func100, Try.ntmps100
        go_wp2
        go_ret
        exact ⟨ret_bool (by rw [HO.out]; simp [ha, hb]), (Below.refl _ _).alloc (Nat.le_refl _) _⟩
    · go_enter Try.func100, Try.ntmps100
      go_wp2
      go_ret
      exact ⟨ret_bool (by rw [HO.out]; simp [ha]), (Below.refl _ _).alloc (Nat.le_refl _) _⟩
  · have HO : Hid (M.okOp 5 a b n = (decide (a < n) && decide (b < n))) := rfl
    by_cases ha : a < n
    · by_cases hb : b < n
      · go_enter Try.func100, Try.ntmps100
        go_wp2
        go_ret
        exact ⟨ret_bool (by rw [HO.out]; simp [ha, hb]), (Below.refl _ _).alloc (Nat.le_refl _) _⟩
      · go_enter Try.func100, Try.ntmps100
        go_wp2
        go_ret
        exact ⟨ret_bool (by rw [HO.out]; simp [ha, hb]), (Below.refl _ _).alloc (Nat.le_refl _) _⟩
    · go_enter Try.func100, Try.ntmps100
      go_wp2
      go_ret
      exact ⟨ret_bool (by rw [HO.out]; simp [ha]), (Below.refl _ _).alloc (Nat.le_refl _) _⟩
  · have HO : Hid (M.okOp 6 a b n = (decide (a < n) && decide (b ≤ 15))) := rfl
    by_cases ha : a < n
    · by_cases hb : b ≤ 15
      · go_enter Try.func100, Try.ntmps100
        go_wp2
        go_ret
        exact ⟨ret_bool (by rw [HO.out]; simp [ha, hb]; omega), (Below.refl _ _).alloc (Nat.le_refl _) _⟩
      · go_enter Try.func100, Try.ntmps100
        go_wp2
        go_ret
        exact ⟨ret_bool (by rw [HO.out]; simp [ha, hb]; omega), (Below.refl _ _).alloc (Nat.le_refl _) _⟩
    · go_enter Try.func100, Try.ntmps100
      go_wp2
      go_ret
      exact ⟨ret_bool (by rw [HO.out]; simp [ha]), (Below.refl _ _).alloc (Nat.le_refl _) _⟩
  · have HO : Hid (M.okOp 7 a b n = (decide (a < n) && decide (b = 0))) := Bool.true_and _
    by_cases ha : a < n
    · by_cases hb : b = 0
      · go_enter Try.func100, Try.ntmps100
        go_wp2
        go_ret
        exact ⟨ret_bool (by rw [HO.out]; simp [ha, hb]), (Below.refl _ _).alloc (Nat.le_refl _) _⟩
      · go_enter Try.func100, Try.ntmps100
        go_wp2
        go_ret
        exact ⟨ret_bool (by rw [HO.out]; simp [ha, hb]), (Below.refl _ _).alloc (Nat.le_refl _) _⟩
    · go_enter Try.func100, Try.ntmps100
      go_wp2
      go_ret
      exact ⟨ret_bool (by rw [HO.out]; simp [ha]), (Below.refl _ _).alloc (Nat.le_refl _) _⟩
  · have HO : Hid (M.okOp op a b n = false) := by
      unfold M.okOp
      rw [if_neg (by omega), if_neg (by omega), if_neg (by omega), decide_eq_false (by omega)]
      rfl
    go_enter Try.func100, Try.ntmps100
    go_wp2
    go_ret
    exact ⟨ret_bool HO.out.symm, (Below.refl _ _).alloc (Nat.le_refl _) _⟩
theorem refAllowed_any (op a b n : Nat) (w : World) (_h1 : op < 256) (_h2 : a < 256) (_h3 : b < 256) (_h4 : n ≤ 65535) :
    Calls Try.prog 66 #[.int .i64 op, .int .i64 a, .int .i64 b, .int .i64 n] w fun e w' => e = .returned (.bool (M.okOp op a b n)) ∧ w = w' := by
  have hops : op = 0 ∨ op = 1 ∨ op = 2 ∨ op = 3 ∨ op = 4 ∨ op = 5 ∨ op = 6 ∨ op = 7 ∨ 8 ≤ op := by omega
  rcases hops with rfl | rfl | rfl | rfl | rfl | rfl | rfl | rfl | h8
  · have HO : Hid (M.okOp 0 a b n = true) := rfl
    go_enter Try.func66, Try.ntmps66
    go_wp2
    go_ret
    exact ⟨ret_bool HO.out.symm, rfl⟩
  · have HO : Hid (M.okOp 1 a b n = (decide (a < n) && decide (b < n))) := rfl
    by_cases ha : a < n
    · by_cases hb : b < n
      · go_enter Try.func66, Try.ntmps66
        go_wp2
        go_ret
        exact ⟨ret_bool (by rw [HO.out]; simp [ha, hb]), rfl⟩
      · go_enter Try.func66, Try.ntmps66
        go_wp2
        go_ret
        exact ⟨ret_bool (by rw [HO.out]; simp [ha, hb]), rfl⟩
    · go_enter Try.func66, Try.ntmps66
      go_wp2
      go_ret
      exact ⟨ret_bool (by rw [HO.out]; simp [ha]), rfl⟩
  · have HO : Hid (M.okOp 2 a b n = (decide (a < n) && decide (b < n))) := rfl
    by_cases ha : a < n
    · by_cases hb : b < n
      · go_enter Try.func66, Try.ntmps66
        go_wp2
        go_ret
        exact ⟨ret_bool (by rw [HO.out]; simp [ha, hb]), rfl⟩
      · go_enter Try.func66, Try.ntmps66
        go_wp2
        go_ret
        exact ⟨ret_bool (by rw [HO.out]; simp [ha, hb]), rfl⟩
    · go_enter Try.func66, Try.ntmps66
      go_wp2
      go_ret
      exact ⟨ret_bool (by rw [HO.out]; simp [ha]), rfl⟩
  · have HO : Hid (M.okOp 3 a b n = (decide (a < n) && decide (b < n))) := rfl
    by_cases ha : a < n
    · by_cases hb : b < n
      · go_enter Try.func66, Try.ntmps66
        go_wp2
        go_ret
        exact ⟨ret_bool (by rw [HO.out]; simp [ha, hb]), rfl⟩
      · go_enter Try.func66, Try.ntmps66
        go_wp2
        go_ret
        exact ⟨ret_bool (by rw [HO.out]; simp [ha, hb]), rfl⟩
    · go_enter Try.func66, Try.ntmps66
      go_wp2
      go_ret
      exact ⟨ret_bool (by rw [HO.out]; simp [ha]), rfl⟩
  · have HO : Hid (M.okOp 4 a b n = (decide (a < n) && decide (b < n))) := rfl
    by_cases ha : a < n
    · by_cases hb : b < n
      · go_enter Try.func66, Try.ntmps66
        go_wp2
        go_ret
        exact ⟨ret_bool (by rw [HO.out]; simp [ha, hb]), rfl⟩
      · go_enter Try.func66, Try.ntmps66
        go_wp2
        go_ret
        exact ⟨ret_bool (by rw [HO.out]; simp [ha, hb]), rfl⟩
    · go_enter Try.func66, Try.ntmps66
      go_wp2
      go_ret
      exact ⟨ret_bool (by rw [HO.out]; simp [ha]), rfl⟩
  · have HO : Hid (M.okOp 5 a b n = (decide (a < n) && decide (b < n))) := rfl
    by_cases ha : a < n
    · by_cases hb : b < n
      · go_enter Try.func66, Try.ntmps66
        go_wp2
        go_ret
        exact ⟨ret_bool (by rw [HO.out]; simp [ha, hb]), rfl⟩
      · go_enter Try.func66, Try.ntmps66
        go_wp2
        go_ret
        exact ⟨ret_bool (by rw [HO.out]; simp [ha, hb]), rfl⟩
    · go_enter Try.func66, Try.ntmps66
      go_wp2
      go_ret
      exact ⟨ret_bool (by rw [HO.out]; simp [ha]), rfl⟩
  · have HO : Hid (M.okOp 6 a b n = (decide (a < n) && decide (b ≤ 15))) := rfl
    by_cases ha : a < n
    · by_cases hb : b ≤ 15
      · go_enter Try.func66, Try.ntmps66
        go_wp2
        go_ret
        exact ⟨ret_bool (by rw [HO.out]; simp [ha, hb]; omega), rfl⟩
      · go_enter Try.func66, Try.ntmps66
        go_wp2
        go_ret
        exact ⟨ret_bool (by rw [HO.out]; simp [ha, hb]; omega), rfl⟩
    · go_enter Try.func66, Try.ntmps66
      go_wp2
      go_ret
      exact ⟨ret_bool (by rw [HO.out]; simp [ha]), rfl⟩
  · have HO : Hid (M.okOp 7 a b n = (decide (a < n) && decide (b = 0))) := Bool.true_and _
    by_cases ha : a < n
    · by_cases hb : b = 0
      · go_enter Try.func66, Try.ntmps66
        go_wp2
        go_ret
        exact ⟨ret_bool (by rw [HO.out]; simp [ha, hb]), rfl⟩
      · go_enter Try.func66, Try.ntmps66
        go_wp2
        go_ret
        exact ⟨ret_bool (by rw [HO.out]; simp [ha, hb]), rfl⟩
    · go_enter Try.func66, Try.ntmps66
      go_wp2
      go_ret
      exact ⟨ret_bool (by rw [HO.out]; simp [ha]), rfl⟩
  · have HO : Hid (M.okOp op a b n = false) := by
      unfold M.okOp
      rw [if_neg (by omega), if_neg (by omega), if_neg (by omega), decide_eq_false (by omega)]
      rfl
    go_enter Try.func66, Try.ntmps66
    go_wp2
    go_ret
    exact ⟨ret_bool HO.out.symm, rfl⟩
end Go.Proofs.Ytjfmiomopfjecaa

/- Straight code in plain words. -/
import Derived.Test.YtjfmiomopfjecaaNetMath
namespace Go.Proofs.Ytjfmiomopfjecaa.M

def cHead (s : ByteArray) : Bool :=
  decide (bz s 0 = 75 ∧ 1 ≤ bz s 1 ∧ bz s 1 ≤ 4 ∧ bz s 1 ≤ bz s 2 ∧ bz s 2 ≤ 32 ∧ 1 ≤ bz s 3 ∧ bz s 3 ≤ 4 ∧ bz s 4 ≤ 48 ∧ s.size = 5 + bz s 3 + 4 * bz s 4)
theorem cHead_eq {s : ByteArray} (h : cHead s = true) : bz s 0 = 75 ∧ 1 ≤ bz s 1 ∧ bz s 1 ≤ 4 ∧ bz s 1 ≤ bz s 2 ∧ bz s 2 ≤ 32 ∧ 1 ≤ bz s 3 ∧ bz s 3 ≤ 4 ∧ bz s 4 ≤ 48 ∧ s.size = 5 + bz s 3 + 4 * bz s 4 := of_decide_eq_true h
theorem cHead_no {s : ByteArray} (h : cHead s = false) : ¬ (bz s 0 = 75 ∧ 1 ≤ bz s 1 ∧ bz s 1 ≤ 4 ∧ bz s 1 ≤ bz s 2 ∧ bz s 2 ≤ 32 ∧ 1 ≤ bz s 3 ∧ bz s 3 ≤ 4 ∧ bz s 4 ≤ 48 ∧ s.size = 5 + bz s 3 + 4 * bz s 4) := of_decide_eq_false h
/-- where instruction k stands -/
def stepAt (s : ByteArray) (k : Nat) : Nat := 5 + bz s 3 + 4 * k
def stepOk (s : ByteArray) (k : Nat) : Bool := okOp (bz s (stepAt s k)) (bz s (stepAt s k + 2)) (bz s (stepAt s k + 3)) (bz s 2) && decide (bz s (stepAt s k + 1) < bz s 2)
def cOuts (s : ByteArray) (k : Nat) : Bool := (List.range k).all fun i => decide (bz s (5 + i) < bz s 2)
def cSteps (s : ByteArray) (k : Nat) : Bool := (List.range k).all fun i => stepOk s i
def isCode (s : ByteArray) : Bool := cHead s && (cOuts s (bz s 3) && cSteps s (bz s 4))

theorem cOuts_next {s : ByteArray} {k : Nat} (h0 : cOuts s k = true) (h : bz s (5 + k) < bz s 2) : cOuts s (k + 1) = true := by
  unfold cOuts at *
  rw [all_range_succ, h0]; simpa using h
theorem cSteps_next {s : ByteArray} {k : Nat} (h0 : cSteps s k = true) (h : stepOk s k = true) : cSteps s (k + 1) = true := by
  unfold cSteps at *
  rw [all_range_succ, h0]; simpa using h
theorem code_outs {s : ByteArray} {k : Nat} (hk : k < bz s 3) (h : ¬ bz s (5 + k) < bz s 2) : (cOuts s (bz s 3) && cSteps s (bz s 4)) = false := by
  rw [show cOuts s (bz s 3) = false from all_range_false (k := k) (by simpa using h) hk]
  simp
theorem code_steps {s : ByteArray} {k : Nat} (hk : k < bz s 4) (h : stepOk s k = false) : (cOuts s (bz s 3) && cSteps s (bz s 4)) = false := by
  rw [show cSteps s (bz s 4) = false from all_range_false (k := k) h hk]
  simp

/-- the cells behind k instructions -/
def cellsAt (s inp : ByteArray) : Nat → Nat → Int
  | 0, i => if i < bz s 1 then wordVal ((bz inp (2 * i) : Int) * 256 + bz inp (2 * i + 1)) else 0
  | k + 1, i => if i = bz s (stepAt s k + 1) then nodeDo (bz s (stepAt s k)) (cellsAt s inp k (bz s (stepAt s k + 2))) (cellsAt s inp k (bz s (stepAt s k + 3))) (bz s (stepAt s k + 2)) (bz s (stepAt s k + 3)) else cellsAt s inp k i
theorem cellsAt_val (s inp : ByteArray) (k i : Nat) : IsVal (cellsAt s inp k i) := by
  induction k generalizing i with
  | zero =>
    unfold cellsAt
    split
    · have := bz_lt inp (2 * i)
      have := bz_lt inp (2 * i + 1)
      exact wordVal_val (by omega) (by omega)
    · unfold IsVal; omega
  | succ k ih =>
    unfold cellsAt
    split
    · exact nodeDo_val (ih _) (ih _) (bz_lt _ _) (bz_lt _ _)
    · exact ih i
/-- L cells as a list -/
def listOf (L : Nat) (f : Nat → Int) : List Int := (List.range L).map f
theorem listOf_length (L : Nat) (f : Nat → Int) : (listOf L f).length = L := by simp [listOf]
theorem listOf_getD (L : Nat) (f : Nat → Int) (h : ∀ i, L ≤ i → f i = 0) (a : Nat) : (listOf L f).getD a 0 = f a := by
  by_cases ha : a < L
  · simp [listOf, ha]
  · simp [listOf, ha, h a (by omega)]
theorem listOf_vals (L : Nat) (f : Nat → Int) (h : ∀ i, IsVal (f i)) : Vals (listOf L f) := by
  intro v hv
  simp only [listOf, List.mem_map] at hv
  obtain ⟨i, _, rfl⟩ := hv
  exact h i
theorem listOf_congr {L : Nat} {f g : Nat → Int} (h : ∀ i, i < L → f i = g i) : listOf L f = listOf L g := by
  unfold listOf
  exact List.map_congr_left fun j hj => h j (List.mem_range.1 hj)
theorem listOf_succ (L : Nat) (f : Nat → Int) : listOf (L + 1) f = listOf L f ++ [f L] := by
  unfold listOf; rw [List.range_succ, List.map_append]; rfl
theorem listOf_set (L : Nat) (f : Nat → Int) (j : Nat) (x : Int) : (listOf L f).set j x = listOf L (fun i => if i = j then x else f i) := by
  apply List.ext_getElem?
  intro k
  rw [List.getElem?_set]
  by_cases hk : k < L
  · by_cases e : j = k
    · subst e; simp [listOf, hk]
    · have e' : ¬ k = j := fun h => e h.symm
      simp [listOf, hk, e, e']
  · by_cases e : j = k
    · subst e; simp [listOf, hk]
    · simp [listOf, hk, e]
theorem cellsAt_zero {s inp : ByteArray} {L : Nat} (h1 : bz s 1 ≤ L) (hst : ∀ k, k < bz s 4 → bz s (stepAt s k + 1) < L) (k : Nat) (hk : k ≤ bz s 4) (i : Nat) (hi : L ≤ i) : cellsAt s inp k i = 0 := by
  induction k with
  | zero => unfold cellsAt; rw [if_neg (by omega)]
  | succ k ih =>
    have := hst k (by omega)
    unfold cellsAt
    rw [if_neg (by omega)]
    exact ih (by omega)
/-- what comes out -/
def outOf (f : Nat → Int) (s : ByteArray) : Nat → ByteArray
  | 0 => ⟨#[]⟩
  | k + 1 => outOf f s k ++ wordText (f (bz s (5 + k)))
theorem outOf_size (f : Nat → Int) (s : ByteArray) (k : Nat) : (outOf f s k).size = 2 * k := by
  induction k with
  | zero => rfl
  | succ k ih => rw [outOf, ByteArray.size_append, ih, wordText_size]; omega
def execOut (s inp : ByteArray) : ByteArray := outOf (cellsAt s inp (bz s 4)) s (bz s 3)
theorem outTo_outOf (L : Nat) (f : Nat → Int) (h : ∀ i, L ≤ i → f i = 0) (s : ByteArray) (k : Nat) : outTo (listOf L f) s 5 k = outOf f s k := by
  induction k with
  | zero => rfl
  | succ k ih => rw [outTo, outOf, ih, listOf_getD L f h]
end Go.Proofs.Ytjfmiomopfjecaa.M

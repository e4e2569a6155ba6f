/- Compile in plain Lean: which nodes are fixed, which values are needed, the code, and that it does what the net does. -/
import Derived.Test.YtjfmiomopfjecaaNodeMath
import Derived.Test.YtjfmiomopfjecaaCodeMath
namespace Go.Proofs.Ytjfmiomopfjecaa.M

def opsL (op a b : Nat) : List Nat := if op = 0 then [] else if op ≤ 5 then [a, b] else if op ≤ 7 then [a] else []
def opsAt (s : ByteArray) (i : Nat) : List Nat := opsL (bz s (4 + 3 * i)) (bz s (5 + 3 * i)) (bz s (6 + 3 * i))
theorem opsL_lt {op a b v : Nat} (h : okOp op a b v = true) : ∀ x ∈ opsL op a b, x < v := by
  intro x hx
  unfold opsL at hx
  unfold okOp at h
  by_cases h0 : op = 0
  · rw [if_pos h0] at hx; cases hx
  · rw [if_neg h0] at hx h
    by_cases h5 : op ≤ 5
    · rw [if_pos h5] at hx h
      simp only [Bool.and_eq_true, decide_eq_true_eq] at h
      simp only [List.mem_cons, List.not_mem_nil, or_false] at hx
      omega
    · rw [if_neg h5] at hx h
      by_cases h7 : op ≤ 7
      · rw [if_pos h7] at hx
        simp only [List.mem_cons, List.not_mem_nil, or_false] at hx
        by_cases h6 : op = 6
        · rw [if_pos h6] at h
          simp only [Bool.and_eq_true, decide_eq_true_eq] at h
          omega
        · rw [if_neg h6] at h
          simp only [Bool.and_eq_true, decide_eq_true_eq] at h
          omega
      · rw [if_neg h7] at hx; cases hx
theorem okOp_seven' {op a b v : Nat} (h : okOp op a b v = true) : op ≤ 7 := by
  unfold okOp at h
  by_cases h0 : op = 0
  · omega
  rw [if_neg h0] at h
  by_cases h5 : op ≤ 5
  · omega
  rw [if_neg h5] at h
  by_cases h6 : op = 6
  · omega
  rw [if_neg h6] at h
  simp only [Bool.and_eq_true, decide_eq_true_eq] at h
  omega
theorem opsL_length (op a b : Nat) : (opsL op a b).length ≤ 2 := by
  unfold opsL
  repeat' split
  all_goals simp
/-- what a node makes hangs on its operands alone -/
theorem nodeVal_congr {op a b v : Nat} {l l' : List Int} (h : okOp op a b v = true) (he : ∀ x ∈ opsL op a b, l.getD x 0 = l'.getD x 0) : nodeVal l op a b = nodeVal l' op a b := by
  unfold nodeVal nodeDo
  unfold opsL at he
  unfold okOp at h
  by_cases h0 : op = 0
  · rw [if_pos h0, if_pos h0]
  · rw [if_neg h0] at he h
    by_cases h5 : op ≤ 5
    · rw [if_pos h5] at he
      have e1 := he a (by simp)
      have e2 := he b (by simp)
      rw [e1, e2]
    · rw [if_neg h5] at he h
      have h7 : op ≤ 7 := by
        by_cases h6 : op = 6
        · omega
        · rw [if_neg h6] at h
          simp only [Bool.and_eq_true, decide_eq_true_eq] at h
          omega
      rw [if_pos h7] at he
      have e1 := he a (by simp)
      rw [e1]
      simp only [if_neg h0, if_neg (show ¬ op = 1 by omega), if_neg (show ¬ op = 2 by omega), if_neg (show ¬ op = 3 by omega), if_neg (show ¬ op = 4 by omega), if_neg (show ¬ op = 5 by omega)]

/-- the values of the fixed ones of the first k nodes -/
def fixL (s : ByteArray) : Nat → List Nat
  | 0 => []
  | k + 1 => if ∀ x ∈ opsAt s k, x ∈ fixL s k then fixL s k ++ [bz s 1 + k] else fixL s k
theorem fixL_length (s : ByteArray) (k : Nat) : (fixL s k).length ≤ k := by
  induction k with
  | zero => exact Nat.le_refl _
  | succ k ih =>
    rw [fixL]
    split
    · rw [List.length_append]; simp; omega
    · omega
theorem fixL_bd {s : ByteArray} {k x : Nat} (h : x ∈ fixL s k) : bz s 1 ≤ x ∧ x < bz s 1 + k := by
  induction k with
  | zero => cases h
  | succ k ih =>
    rw [fixL] at h
    split at h
    · rcases List.mem_append.1 h with h1 | h1
      · have := ih h1; omega
      · simp at h1; omega
    · have := ih h; omega
theorem fixL_keep {s : ByteArray} {k x : Nat} (j : Nat) (h : x ∈ fixL s k) : x ∈ fixL s (k + j) := by
  induction j with
  | zero => exact h
  | succ j ih =>
    rw [← Nat.add_assoc, fixL]
    split
    · exact List.mem_append_left _ ih
    · exact ih
theorem fixL_back {s : ByteArray} {k x : Nat} (j : Nat) (hx : x < bz s 1 + k) (h : x ∈ fixL s (k + j)) : x ∈ fixL s k := by
  induction j with
  | zero => exact h
  | succ j ih =>
    rw [← Nat.add_assoc, fixL] at h
    split at h
    · rcases List.mem_append.1 h with h1 | h1
      · exact ih h1
      · simp at h1; omega
    · exact ih h
theorem image_okOp {s : ByteArray} (h : isImage s = true) {k : Nat} (hk : k < bz s 2) : okOp (bz s (4 + 3 * k)) (bz s (5 + 3 * k)) (bz s (6 + 3 * k)) (bz s 1 + k) = true := by
  unfold isImage nodesOk at h
  simp only [Bool.and_eq_true] at h
  exact all_range_at (p := fun i => okOp (bz s (4 + 3 * i)) (bz s (5 + 3 * i)) (bz s (6 + 3 * i)) (bz s 1 + i)) h.2.1 hk
theorem image_outOk {s : ByteArray} (h : isImage s = true) {k : Nat} (hk : k < bz s 3) : bz s (4 + 3 * bz s 2 + k) < bz s 1 + bz s 2 := by
  unfold isImage outsOk at h
  simp only [Bool.and_eq_true] at h
  exact of_decide_eq_true (all_range_at (p := fun i => decide (bz s (4 + 3 * bz s 2 + i) < bz s 1 + bz s 2)) h.2.2 hk)
theorem image_headOk {s : ByteArray} (h : isImage s = true) : headOk s = true := by
  unfold isImage at h
  simp only [Bool.and_eq_true] at h
  exact h.1
theorem opsAt_lt {s : ByteArray} (h : isImage s = true) {k : Nat} (hk : k < bz s 2) : ∀ x ∈ opsAt s k, x < bz s 1 + k := opsL_lt (image_okOp h hk)
def fixA (s : ByteArray) : List Nat := fixL s (bz s 2)
theorem fix_iff {s : ByteArray} (h : isImage s = true) {k : Nat} (hk : k < bz s 2) : bz s 1 + k ∈ fixA s ↔ ∀ x ∈ opsAt s k, x ∈ fixA s := by
  have e : fixA s = fixL s (k + 1 + (bz s 2 - (k + 1))) := by unfold fixA; congr 1; omega
  have e2 : fixA s = fixL s (k + (bz s 2 - k)) := by unfold fixA; congr 1; omega
  constructor
  · intro hf x hx
    rw [e] at hf
    have h1 := fixL_back _ (by omega) hf
    rw [fixL] at h1
    split at h1
    · rename_i hall
      rw [e2]
      exact fixL_keep _ (hall x hx)
    · have := fixL_bd h1; omega
  · intro hall
    rw [e]
    refine fixL_keep _ ?_
    rw [fixL, if_pos]
    · simp
    · intro x hx
      have hx1 := hall x hx
      rw [e2] at hx1
      exact fixL_back _ (opsAt_lt h hk x hx) hx1
theorem fix_const {s : ByteArray} (h : isImage s = true) {k : Nat} (hk : k < bz s 2) (hf : bz s 1 + k ∉ fixA s) : bz s (4 + 3 * k) ≠ 0 := by
  intro h0
  refine hf ((fix_iff h hk).2 ?_)
  intro x hx
  unfold opsAt opsL at hx
  rw [if_pos h0] at hx
  cases hx

/-- the values that are needed, behind j nodes from the last one on -/
def outL (s : ByteArray) : List Nat := (List.range (bz s 3)).map fun j => bz s (4 + 3 * bz s 2 + j)
def needL (s : ByteArray) : Nat → List Nat
  | 0 => outL s
  | j + 1 => if bz s 1 + (bz s 2 - 1 - j) ∈ needL s j ∧ bz s 1 + (bz s 2 - 1 - j) ∉ fixA s then needL s j ++ opsAt s (bz s 2 - 1 - j) else needL s j
def needA (s : ByteArray) : List Nat := needL s (bz s 2)
theorem needL_length (s : ByteArray) (j : Nat) : (needL s j).length ≤ bz s 3 + 2 * j := by
  induction j with
  | zero => rw [needL]; simp [outL]
  | succ j ih =>
    rw [needL]
    have := opsL_length (bz s (4 + 3 * (bz s 2 - 1 - j))) (bz s (5 + 3 * (bz s 2 - 1 - j))) (bz s (6 + 3 * (bz s 2 - 1 - j)))
    split
    · rw [List.length_append]
      unfold opsAt
      omega
    · omega
theorem needL_keep {s : ByteArray} {k x : Nat} (j : Nat) (h : x ∈ needL s k) : x ∈ needL s (k + j) := by
  induction j with
  | zero => exact h
  | succ j ih =>
    rw [← Nat.add_assoc, needL]
    split
    · exact List.mem_append_left _ ih
    · exact ih
theorem needL_back {s : ByteArray} (hs : isImage s = true) {k x : Nat} (j : Nat) (hj : k + j ≤ bz s 2) (hx : bz s 1 + (bz s 2 - 1 - k) ≤ x) (h : x ∈ needL s (k + j)) : x ∈ needL s k := by
  induction j with
  | zero => exact h
  | succ j ih =>
    rw [← Nat.add_assoc, needL] at h
    split at h
    · rcases List.mem_append.1 h with h1 | h1
      · exact ih (by omega) h1
      · have := opsAt_lt hs (show bz s 2 - 1 - (k + j) < bz s 2 by omega) x h1
        omega
    · exact ih (by omega) h
theorem need_ops {s : ByteArray} (hs : isImage s = true) {i : Nat} (hi : i < bz s 2) (hn : bz s 1 + i ∈ needA s) (hf : bz s 1 + i ∉ fixA s) : ∀ x ∈ opsAt s i, x ∈ needA s := by
  intro x hx
  have e : needA s = needL s ((bz s 2 - 1 - i) + (bz s 2 - (bz s 2 - 1 - i))) := by unfold needA; congr 1; omega
  have e2 : needA s = needL s ((bz s 2 - 1 - i) + 1 + (bz s 2 - (bz s 2 - 1 - i + 1))) := by unfold needA; congr 1; omega
  have ei : bz s 2 - 1 - (bz s 2 - 1 - i) = i := by omega
  rw [e] at hn
  have h1 := needL_back hs _ (by omega) (by rw [ei]; exact Nat.le_refl _) hn
  rw [e2]
  refine needL_keep _ ?_
  rw [needL, ei, if_pos ⟨h1, hf⟩]
  exact List.mem_append_right _ hx
theorem need_out {s : ByteArray} {j : Nat} (hj : j < bz s 3) : bz s (4 + 3 * bz s 2 + j) ∈ needA s := by
  have e : needA s = needL s (0 + bz s 2) := by unfold needA; congr 1; omega
  rw [e]
  refine needL_keep _ ?_
  rw [needL]
  unfold outL
  exact List.mem_map.2 ⟨j, by simpa using hj, rfl⟩
theorem need_from {s : ByteArray} (j : Nat) (hj : j ≤ bz s 2) {x : Nat} (h : x ∈ needL s j) : x ∈ outL s ∨ ∃ i, i < bz s 2 ∧ bz s 1 + i ∈ needA s ∧ bz s 1 + i ∉ fixA s ∧ x ∈ opsAt s i := by
  induction j with
  | zero => exact .inl h
  | succ j ih =>
    rw [needL] at h
    split at h
    · rename_i hc
      rcases List.mem_append.1 h with h1 | h1
      · exact ih (by omega) h1
      · refine .inr ⟨bz s 2 - 1 - j, by omega, ?_, hc.2, h1⟩
        have e : needA s = needL s (j + (bz s 2 - j)) := by unfold needA; congr 1; omega
        rw [e]
        exact needL_keep _ hc.1
    · exact ih (by omega) h

/-- how many of the first k nodes are needed -/
def cnt (s : ByteArray) : Nat → Nat
  | 0 => 0
  | k + 1 => if bz s 1 + k ∈ needA s then cnt s k + 1 else cnt s k
theorem cnt_le (s : ByteArray) (k : Nat) : cnt s k ≤ k := by
  induction k with
  | zero => exact Nat.le_refl _
  | succ k ih => rw [cnt]; split <;> omega
theorem cnt_mono (s : ByteArray) (k j : Nat) : cnt s k ≤ cnt s (k + j) := by
  induction j with
  | zero => exact Nat.le_refl _
  | succ j ih => rw [← Nat.add_assoc, cnt]; split <;> omega
theorem cnt_lt {s : ByteArray} {i k : Nat} (h : i < k) (hn : bz s 1 + i ∈ needA s) : cnt s i < cnt s k := by
  have e : k = i + 1 + (k - (i + 1)) := by omega
  rw [e]
  have := cnt_mono s (i + 1) (k - (i + 1))
  rw [cnt, if_pos hn] at this
  omega
theorem cnt_find {s : ByteArray} {m q : Nat} (h : q < cnt s m) : ∃ k, k < m ∧ bz s 1 + k ∈ needA s ∧ cnt s k = q := by
  induction m with
  | zero => exact absurd h (by simp [cnt])
  | succ m ih =>
    rw [cnt] at h
    split at h
    · rename_i hn
      by_cases hq : q < cnt s m
      · obtain ⟨k, h1, h2, h3⟩ := ih hq
        exact ⟨k, by omega, h2, h3⟩
      · exact ⟨m, by omega, hn, by omega⟩
    · obtain ⟨k, h1, h2, h3⟩ := ih h
      exact ⟨k, by omega, h2, h3⟩
/-- the cell of a value -/
def cellOf (s : ByteArray) (v : Nat) : Nat := if v < bz s 1 then v else bz s 1 + cnt s (v - bz s 1)
theorem cellOf_node (s : ByteArray) (k : Nat) : cellOf s (bz s 1 + k) = bz s 1 + cnt s k := by
  unfold cellOf
  rw [if_neg (by omega), show bz s 1 + k - bz s 1 = k from by omega]
theorem cellOf_lt {s : ByteArray} {v k : Nat} (h : v < bz s 1 ∨ v ∈ needA s) (hv : v < bz s 1 + k) : cellOf s v < bz s 1 + cnt s k := by
  unfold cellOf
  by_cases hn : v < bz s 1
  · rw [if_pos hn]; omega
  · rw [if_neg hn]
    have hm : v ∈ needA s := h.resolve_left hn
    have := cnt_lt (s := s) (i := v - bz s 1) (k := k) (by omega) (by rw [show bz s 1 + (v - bz s 1) = v from by omega]; exact hm)
    omega
theorem cellOf_le (s : ByteArray) (v k : Nat) (hv : v ≤ bz s 1 + k) : cellOf s v ≤ bz s 1 + k := by
  unfold cellOf
  split
  · omega
  · have := cnt_le s (v - bz s 1); omega
def cellsL (s : ByteArray) (k : Nat) : List Nat := (List.range (bz s 1 + k)).map (cellOf s)
theorem cellsL_length (s : ByteArray) (k : Nat) : (cellsL s k).length = bz s 1 + k := by simp [cellsL]
theorem cellsL_succ (s : ByteArray) (k : Nat) : cellsL s (k + 1) = cellsL s k ++ [bz s 1 + cnt s k] := by
  unfold cellsL
  rw [← Nat.add_assoc, List.range_succ, List.map_append]
  simp [cellOf_node]
theorem cellsL_at {s : ByteArray} {k v : Nat} (h : v < bz s 1 + k) : (cellsL s k).getD v 0 = cellOf s v := by
  simp [cellsL, h]

/-- the instruction of a needed node: what it does, its operands -/
def zeroRun (s : ByteArray) : List Int := runTo s ⟨#[]⟩ (bz s 2)
def mvA (s : ByteArray) (k : Nat) : Nat := if 0 < (opsAt s k).length then cellOf s (bz s (5 + 3 * k)) else bz s (5 + 3 * k)
def mvB (s : ByteArray) (k : Nat) : Nat := if 1 < (opsAt s k).length then cellOf s (bz s (6 + 3 * k)) else bz s (6 + 3 * k)
def inOp (s : ByteArray) (k : Nat) : Nat := if bz s 1 + k ∈ fixA s then 0 else bz s (4 + 3 * k)
def inA (s : ByteArray) (k : Nat) : Nat := if bz s 1 + k ∈ fixA s then (unword ((zeroRun s).getD (bz s 1 + k) 0) / 256).toNat else mvA s k
def inB (s : ByteArray) (k : Nat) : Nat := if bz s 1 + k ∈ fixA s then (unword ((zeroRun s).getD (bz s 1 + k) 0) % 256).toNat else mvB s k
def stepL (s : ByteArray) (k : Nat) : List Nat := [inOp s k, bz s 1 + cnt s k, inA s k, inB s k]
/-- the instructions as they lie in memory, and as text -/
def stepsM (s : ByteArray) : Nat → List Nat
  | 0 => []
  | k + 1 => if bz s 1 + k ∈ needA s then stepsM s k ++ [inOp s k, inA s k, inB s k, bz s 1 + cnt s k] else stepsM s k
def stepsT (s : ByteArray) : Nat → List Nat
  | 0 => []
  | k + 1 => if bz s 1 + k ∈ needA s then stepsT s k ++ stepL s k else stepsT s k
theorem stepsM_length (s : ByteArray) (k : Nat) : (stepsM s k).length = 4 * cnt s k := by
  induction k with
  | zero => rfl
  | succ k ih =>
    rw [stepsM, cnt]
    split
    · rw [List.length_append, ih]; simp; omega
    · exact ih
theorem stepsT_length (s : ByteArray) (k : Nat) : (stepsT s k).length = 4 * cnt s k := by
  induction k with
  | zero => rfl
  | succ k ih =>
    rw [stepsT, cnt]
    split
    · rw [List.length_append, ih]; simp [stepL]; omega
    · exact ih
theorem stepsT_at {s : ByteArray} {m k c : Nat} (hk : k < m) (hn : bz s 1 + k ∈ needA s) (hc : c < 4) : (stepsT s m).getD (4 * cnt s k + c) 0 = (stepL s k).getD c 0 := by
  induction m with
  | zero => omega
  | succ m ih =>
    rw [stepsT]
    by_cases e : k = m
    · subst e
      rw [if_pos hn, getD_append_right (by rw [stepsT_length]; omega), stepsT_length]
      congr 1
      omega
    · have h1 := ih (by omega)
      split
      · have := cnt_lt (s := s) (i := k) (k := m) (by omega) hn
        rw [getD_append_left (by rw [stepsT_length]; omega)]
        exact h1
      · exact h1
theorem stepsM_at {s : ByteArray} {m k c : Nat} (hk : k < m) (hn : bz s 1 + k ∈ needA s) (hc : c < 4) : (stepsM s m).getD (4 * cnt s k + c) 0 = [inOp s k, inA s k, inB s k, bz s 1 + cnt s k].getD c 0 := by
  induction m with
  | zero => omega
  | succ m ih =>
    rw [stepsM]
    by_cases e : k = m
    · subst e
      rw [if_pos hn, getD_append_right (by rw [stepsM_length]; omega), stepsM_length]
      congr 1
      omega
    · have h1 := ih (by omega)
      split
      · have := cnt_lt (s := s) (i := k) (k := m) (by omega) hn
        rw [getD_append_left (by rw [stepsM_length]; omega)]
        exact h1
      · exact h1
def codeL (s : ByteArray) : List Nat := [75, bz s 1, bz s 1 + cnt s (bz s 2), bz s 3, cnt s (bz s 2)] ++ ((outL s).map (cellOf s) ++ stepsT s (bz s 2))
def codeT (s : ByteArray) : ByteArray := bytesOf (codeL s)
end Go.Proofs.Ytjfmiomopfjecaa.M

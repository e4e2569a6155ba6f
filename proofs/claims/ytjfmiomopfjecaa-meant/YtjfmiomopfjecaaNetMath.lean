/- Nets in plain Lean: what an image is, what its nodes do, what comes out. -/
import Derived.WalkKit
namespace Go.Proofs.Ytjfmiomopfjecaa.M

/-- a byte of a text, 0 where there is none -/
def bz (s : ByteArray) (i : Nat) : Nat := (s.data.toList.getD i 0).toNat
theorem bz_lt (s : ByteArray) (i : Nat) : bz s i < 256 := UInt8.toNat_lt _
theorem bz_at (s : ByteArray) (i : Nat) (h : i < s.size) : s[i].toNat = bz s i := by
  unfold bz
  rw [List.getD_eq_getElem?_getD, List.getElem?_eq_getElem (by simpa using h)]
  rfl
theorem bz_out (s : ByteArray) (i : Nat) (h : s.size ≤ i) : bz s i = 0 := by
  unfold bz
  rw [List.getD_eq_getElem?_getD, List.getElem?_eq_none (by simpa using h)]
  rfl

def IsVal (v : Int) : Prop := -32768 ≤ v ∧ v ≤ 32767
def clip (v : Int) : Int := if v < -32768 then -32768 else if 32767 < v then 32767 else v
theorem clip_val (v : Int) : IsVal (clip v) := by
  unfold clip IsVal
  repeat' split
  all_goals omega
def wordVal (v : Int) : Int := if 32767 < v then v - 65536 else v
theorem wordVal_val {v : Int} (h0 : 0 ≤ v) (h : v < 65536) : IsVal (wordVal v) := by unfold wordVal IsVal; split <;> omega
/-- the word of a value -/
def unword (v : Int) : Int := if v < 0 then v + 65536 else v
theorem unword_bd {v : Int} (h : IsVal v) : 0 ≤ unword v ∧ unword v < 65536 := by unfold unword; unfold IsVal at h; split <;> omega
theorem wordVal_unword {v : Int} (h : IsVal v) : wordVal (unword v) = v := by unfold unword wordVal; unfold IsVal at h; split <;> split <;> omega
def wordText (v : Int) : ByteArray := ⟨#[UInt8.ofNat (unword v / 256).toNat, UInt8.ofNat (unword v % 256).toNat]⟩
theorem wordText_size (v : Int) : (wordText v).size = 2 := rfl

def mx (x y : Int) : Int := if y < x then x else y
def mn (x y : Int) : Int := if x < y then x else y
/-- what a node does to x and y; a and b are the bytes themselves -/
def nodeDo (op : Nat) (x y : Int) (a b : Nat) : Int :=
  if op = 0 then wordVal ((a : Int) * 256 + b)
  else if op = 1 then clip (x + y)
  else if op = 2 then clip (x - y)
  else if op = 3 then clip (x * y)
  else if op = 4 then mx x y
  else if op = 5 then mn x y
  else if op = 6 then x / 2 ^ b
  else mx x 0
theorem shift_val {x : Int} (h : IsVal x) (b : Nat) : IsVal (x / 2 ^ b) := by
  unfold IsVal at *
  have hp : (0 : Int) < 2 ^ b := Int.pow_pos (by omega)
  have h1 : (1 : Int) ≤ 2 ^ b := by omega
  constructor
  · rw [Int.le_ediv_iff_mul_le hp]
    have : (-32768 : Int) * 2 ^ b ≤ -32768 * 1 := by
      have := Int.mul_le_mul_of_nonneg_left h1 (show (0 : Int) ≤ 32768 by omega)
      omega
    omega
  · have : x / 2 ^ b < 32767 + 1 := by
      rw [Int.ediv_lt_iff_lt_mul hp]
      have := Int.mul_le_mul_of_nonneg_left h1 (show (0 : Int) ≤ 32768 by omega)
      omega
    omega
theorem nodeDo_val {op : Nat} {x y : Int} {a b : Nat} (hx : IsVal x) (hy : IsVal y) (ha : a < 256) (hb : b < 256) : IsVal (nodeDo op x y a b) := by
  unfold nodeDo
  repeat' split
  · exact wordVal_val (by omega) (by omega)
  · exact clip_val _
  · exact clip_val _
  · exact clip_val _
  · unfold mx; split <;> assumption
  · unfold mn; split <;> assumption
  · exact shift_val hx b
  · unfold mx; split
    · exact hx
    · unfold IsVal; omega
theorem mul_bd {x y : Int} (hx : IsVal x) (hy : IsVal y) : -1073741824 ≤ x * y ∧ x * y ≤ 1073741824 := by
  unfold IsVal at *
  have h : (x * y).natAbs ≤ 32768 * 32768 := by
    rw [Int.natAbs_mul]
    exact Nat.mul_le_mul (by omega) (by omega)
  omega

/-- may these stand as operands where the first n values may be taken? -/
def okOp (op a b n : Nat) : Bool :=
  if op = 0 then true
  else if op ≤ 5 then decide (a < n) && decide (b < n)
  else if op = 6 then decide (a < n) && decide (b ≤ 15)
  else decide (op = 7) && (decide (a < n) && decide (b = 0))

theorem all_range_succ (p : Nat → Bool) (k : Nat) : (List.range (k + 1)).all p = ((List.range k).all p && p k) := by
  rw [List.range_succ, List.all_append]; simp
theorem all_range_false {p : Nat → Bool} {k m : Nat} (h : p k = false) (hk : k < m) : (List.range m).all p = false := by
  rw [List.all_eq_false]
  exact ⟨k, by simpa using hk, by simp [h]⟩
theorem all_range_at {p : Nat → Bool} {k m : Nat} (h : (List.range m).all p = true) (hk : k < m) : p k = true := by
  rw [List.all_eq_true] at h
  exact h k (by simpa using hk)

def headOk (s : ByteArray) : Bool :=
  decide (bz s 0 = 77 ∧ 1 ≤ bz s 1 ∧ bz s 1 ≤ 4 ∧ bz s 2 ≤ 24 ∧ 1 ≤ bz s 3 ∧ bz s 3 ≤ 4 ∧ s.size = 4 + 3 * bz s 2 + bz s 3)
theorem headOk_eq {s : ByteArray} (h : headOk s = true) : bz s 0 = 77 ∧ 1 ≤ bz s 1 ∧ bz s 1 ≤ 4 ∧ bz s 2 ≤ 24 ∧ 1 ≤ bz s 3 ∧ bz s 3 ≤ 4 ∧ s.size = 4 + 3 * bz s 2 + bz s 3 := of_decide_eq_true h
theorem headOk_no {s : ByteArray} (h : headOk s = false) : ¬ (bz s 0 = 77 ∧ 1 ≤ bz s 1 ∧ bz s 1 ≤ 4 ∧ bz s 2 ≤ 24 ∧ 1 ≤ bz s 3 ∧ bz s 3 ≤ 4 ∧ s.size = 4 + 3 * bz s 2 + bz s 3) := of_decide_eq_false h
def nodesOk (s : ByteArray) (k : Nat) : Bool := (List.range k).all fun i => okOp (bz s (4 + 3 * i)) (bz s (5 + 3 * i)) (bz s (6 + 3 * i)) (bz s 1 + i)
def outsOk (s : ByteArray) (k : Nat) : Bool := (List.range k).all fun i => decide (bz s (4 + 3 * bz s 2 + i) < bz s 1 + bz s 2)
def isImage (s : ByteArray) : Bool := headOk s && (nodesOk s (bz s 2) && outsOk s (bz s 3))

/-- the values of the inputs -/
def insOf (inp : ByteArray) (k : Nat) : List Int := (List.range k).map fun i => wordVal ((bz inp (2 * i) : Int) * 256 + bz inp (2 * i + 1))
theorem insOf_succ (inp : ByteArray) (k : Nat) : insOf inp (k + 1) = insOf inp k ++ [wordVal ((bz inp (2 * k) : Int) * 256 + bz inp (2 * k + 1))] := by
  unfold insOf; rw [List.range_succ, List.map_append]; rfl
theorem insOf_length (inp : ByteArray) (k : Nat) : (insOf inp k).length = k := by simp [insOf]
def Vals (l : List Int) : Prop := ∀ v ∈ l, IsVal v
theorem Vals.snoc {l : List Int} {v : Int} (h : Vals l) (hv : IsVal v) : Vals (l ++ [v]) := by
  intro u hu
  rcases List.mem_append.1 hu with h1 | h1
  · exact h u h1
  · simp at h1; subst h1; exact hv
theorem Vals.getD {l : List Int} (h : Vals l) (i : Nat) : IsVal (l.getD i 0) := by
  by_cases hi : i < l.length
  · rw [List.getD_eq_getElem?_getD, List.getElem?_eq_getElem hi]; exact h _ (List.getElem_mem hi)
  · rw [List.getD_eq_getElem?_getD, List.getElem?_eq_none (by omega)]; show IsVal 0; unfold IsVal; omega
theorem insOf_vals (inp : ByteArray) (k : Nat) : Vals (insOf inp k) := by
  intro v hv
  simp only [insOf, List.mem_map] at hv
  obtain ⟨i, _, rfl⟩ := hv
  have := bz_lt inp (2 * i)
  have := bz_lt inp (2 * i + 1)
  exact wordVal_val (by omega) (by omega)

def nodeVal (l : List Int) (op a b : Nat) : Int := nodeDo op (l.getD a 0) (l.getD b 0) a b
def runTo (s inp : ByteArray) : Nat → List Int
  | 0 => insOf inp (bz s 1)
  | k + 1 => runTo s inp k ++ [nodeVal (runTo s inp k) (bz s (4 + 3 * k)) (bz s (5 + 3 * k)) (bz s (6 + 3 * k))]
theorem runTo_length (s inp : ByteArray) (k : Nat) : (runTo s inp k).length = bz s 1 + k := by
  induction k with
  | zero => exact insOf_length _ _
  | succ k ih => simp [runTo, ih]; omega
theorem runTo_vals (s inp : ByteArray) (k : Nat) : Vals (runTo s inp k) := by
  induction k with
  | zero => exact insOf_vals _ _
  | succ k ih => exact ih.snoc (nodeDo_val (ih.getD _) (ih.getD _) (bz_lt _ _) (bz_lt _ _))

/-- the words of the values whose places stand in s from a place on -/
def outTo (l : List Int) (s : ByteArray) (at_ : Nat) : Nat → ByteArray
  | 0 => ⟨#[]⟩
  | k + 1 => outTo l s at_ k ++ wordText (l.getD (bz s (at_ + k)) 0)
theorem outTo_size (l : List Int) (s : ByteArray) (at_ k : Nat) : (outTo l s at_ k).size = 2 * k := by
  induction k with
  | zero => rfl
  | succ k ih => rw [outTo, ByteArray.size_append, ih, wordText_size]; omega
def evalOut (s inp : ByteArray) : ByteArray := outTo (runTo s inp (bz s 2)) s (4 + 3 * bz s 2) (bz s 3)
end Go.Proofs.Ytjfmiomopfjecaa.M

/- Nets made out of raw numbers and texts, in plain words. -/
import Derived.Test.YtjfmiomopfjecaaNetMath
import Derived.Laws.Concat
import Derived.Laws.Strings2
namespace Go.Proofs.Ytjfmiomopfjecaa.M

def bytesOf (l : List Nat) : ByteArray := ⟨(l.map UInt8.ofNat).toArray⟩
theorem bytesOf_append (a b : List Nat) : bytesOf a ++ bytesOf b = bytesOf (a ++ b) := by
  unfold bytesOf
  rw [ByteArray.mk_append_mk, List.map_append]
theorem bytesOf_size (l : List Nat) : (bytesOf l).size = l.length := by
  show (l.map UInt8.ofNat).toArray.size = _
  simp
def AllB (l : List Nat) : Prop := ∀ x ∈ l, x < 256
theorem AllB.append {a b : List Nat} (ha : AllB a) (hb : AllB b) : AllB (a ++ b) := by
  intro x hx
  rcases List.mem_append.1 hx with h | h
  · exact ha x h
  · exact hb x h
theorem bz_bytesOf {l : List Nat} (h : AllB l) (i : Nat) : bz (bytesOf l) i = l.getD i 0 := by
  unfold bz bytesOf
  show (((l.map UInt8.ofNat).toArray.toList).getD i 0).toNat = _
  rw [List.getD_eq_getElem?_getD, List.getD_eq_getElem?_getD]
  by_cases hi : i < l.length
  · have := h _ (List.getElem_mem hi)
    simp [hi]; omega
  · simp [hi]
theorem bytesOf_extract (l : List Nat) (a b : Nat) : (bytesOf l).extract a b = bytesOf ((l.drop a).take (b - a)) := by
  unfold bytesOf
  rw [ByteArray.extract_mk, List.map_take, List.map_drop]
theorem bytesOf_bz (s : ByteArray) : s = bytesOf ((List.range s.size).map (bz s)) := by
  unfold bytesOf
  have : s.data.toList = ((List.range s.size).map (bz s)).map UInt8.ofNat := by
    apply List.ext_getElem?
    intro i
    by_cases hi : i < s.size
    · have hi' : i < s.data.toList.length := by simpa using hi
      rw [List.getElem?_eq_getElem hi']
      simp only [List.getElem?_map, List.getElem?_range hi, Option.map_some]
      unfold bz
      rw [List.getD_eq_getElem?_getD, List.getElem?_eq_getElem hi']
      simp
    · have hi' : ¬ i < s.data.toList.length := by simpa using hi
      rw [List.getElem?_eq_none (by omega)]
      simp [hi]
  rw [← this]
def wordL (v : Int) : List Nat := [(unword v / 256).toNat, (unword v % 256).toNat]
theorem wordText_bytes (v : Int) : wordText v = bytesOf (wordL v) := rfl

/-- the first n bytes of a text, noughts behind its end -/
def fillL (s : ByteArray) (n : Nat) : List Nat := (List.range n).map (bz s)
theorem fillL_length (s : ByteArray) (n : Nat) : (fillL s n).length = n := by simp [fillL]
theorem fillL_all (s : ByteArray) (n : Nat) : AllB (fillL s n) := by
  intro x hx
  simp only [fillL, List.mem_map] at hx
  obtain ⟨i, _, rfl⟩ := hx
  exact bz_lt s i
theorem fillL_succ (s : ByteArray) (n : Nat) : fillL s (n + 1) = fillL s n ++ [bz s n] := by
  unfold fillL; rw [List.range_succ, List.map_append]; rfl
theorem fillL_getD (s : ByteArray) (n i : Nat) (h : i < n) : (fillL s n).getD i 0 = bz s i := by simp [fillL, h]

def pk (c : Int) (n : Nat) : Nat := ((if c < 0 then -(c + 1) else c) % (n : Int)).toNat
theorem pk_lt (c : Int) (n : Nat) (h : 0 < n) : pk c n < n := by
  unfold pk
  have h1 := Int.emod_lt_of_pos (if c < 0 then -(c + 1) else c) (show (0 : Int) < n by omega)
  have h2 := Int.emod_nonneg (if c < 0 then -(c + 1) else c) (show (n : Int) ≠ 0 by omega)
  omega

/-- three bytes as a node ahead of which there are v values -/
def nodeL (op a b v : Nat) : List Nat :=
  if op % 8 = 0 then [0, a, b] else if op % 8 = 6 then [6, a % v, b % 16] else if op % 8 = 7 then [7, a % v, 0] else [op % 8, a % v, b % v]
theorem nodeL_length (op a b v : Nat) : (nodeL op a b v).length = 3 := by
  unfold nodeL
  repeat' split
  all_goals rfl
theorem nodeL_all {op a b v : Nat} (ha : a < 256) (hb : b < 256) : AllB (nodeL op a b v) := by
  have h1 : a % v ≤ a := Nat.mod_le _ _
  have h2 : b % v ≤ b := Nat.mod_le _ _
  unfold nodeL AllB
  repeat' split
  all_goals (intro x hx; simp at hx; omega)
theorem nodeL_ok {op a b v : Nat} (hv : 0 < v) : okOp ((nodeL op a b v).getD 0 0) ((nodeL op a b v).getD 1 0) ((nodeL op a b v).getD 2 0) v = true := by
  have h1 : a % v < v := Nat.mod_lt _ hv
  have h2 : b % v < v := Nat.mod_lt _ hv
  unfold nodeL
  by_cases e0 : op % 8 = 0
  · rw [if_pos e0]; rfl
  · rw [if_neg e0]
    by_cases e6 : op % 8 = 6
    · rw [if_pos e6]
      show okOp 6 (a % v) (b % 16) v = true
      unfold okOp
      simp [h1]; omega
    · rw [if_neg e6]
      by_cases e7 : op % 8 = 7
      · rw [if_pos e7]
        show okOp 7 (a % v) 0 v = true
        unfold okOp
        simp [h1]
      · rw [if_neg e7]
        show okOp (op % 8) (a % v) (b % v) v = true
        unfold okOp
        rw [if_neg e0, if_pos (by omega)]
        simp [h1, h2]
def nodesL (t : ByteArray) (n : Nat) : Nat → List Nat
  | 0 => []
  | k + 1 => nodesL t n k ++ nodeL (bz t (3 * k)) (bz t (3 * k + 1)) (bz t (3 * k + 2)) (n + k)
theorem nodesL_length (t : ByteArray) (n k : Nat) : (nodesL t n k).length = 3 * k := by
  induction k with
  | zero => rfl
  | succ k ih => rw [nodesL, List.length_append, ih, nodeL_length]; omega
theorem nodesL_all (t : ByteArray) (n k : Nat) : AllB (nodesL t n k) := by
  induction k with
  | zero => intro x hx; cases hx
  | succ k ih => exact ih.append (nodeL_all (bz_lt _ _) (bz_lt _ _))
theorem getD_append_left {l r : List Nat} {i : Nat} (h : i < l.length) : (l ++ r).getD i 0 = l.getD i 0 := by
  rw [List.getD_eq_getElem?_getD, List.getD_eq_getElem?_getD, List.getElem?_append_left h]
theorem getD_append_right {l r : List Nat} {i : Nat} (h : l.length ≤ i) : (l ++ r).getD i 0 = r.getD (i - l.length) 0 := by
  rw [List.getD_eq_getElem?_getD, List.getD_eq_getElem?_getD, List.getElem?_append_right h]
theorem nodesL_at (t : ByteArray) (n m k c : Nat) (hk : k < m) (hc : c < 3) : (nodesL t n m).getD (3 * k + c) 0 = (nodeL (bz t (3 * k)) (bz t (3 * k + 1)) (bz t (3 * k + 2)) (n + k)).getD c 0 := by
  induction m with
  | zero => omega
  | succ m ih =>
    rw [nodesL]
    by_cases e : k < m
    · rw [getD_append_left (by rw [nodesL_length]; omega), ih e]
    · have : k = m := by omega
      subst this
      rw [getD_append_right (by rw [nodesL_length]; omega), nodesL_length]
      congr 1
      omega

/-- an image as bytes: head, nodes, outputs -/
def imgL (n m o : Nat) (nodes outs : List Nat) : List Nat := [77, n, m, o] ++ (nodes ++ outs)
theorem imgL_all {n m o : Nat} {nodes outs : List Nat} (hn : n < 256) (hm : m < 256) (ho : o < 256) (h1 : AllB nodes) (h2 : AllB outs) : AllB (imgL n m o nodes outs) := by
  refine AllB.append ?_ (h1.append h2)
  intro x hx
  simp at hx
  omega
theorem imgL_nodes {n m o : Nat} {nodes outs : List Nat} (h1 : nodes.length = 3 * m) {j : Nat} (hj : j < 3 * m) : (imgL n m o nodes outs).getD (4 + j) 0 = nodes.getD j 0 := by
  unfold imgL
  rw [getD_append_right (by simp), getD_append_left (by simp; omega)]
  congr 1
  simp
theorem imgL_outs {n m o : Nat} {nodes outs : List Nat} (h1 : nodes.length = 3 * m) {j : Nat} : (imgL n m o nodes outs).getD (4 + 3 * m + j) 0 = outs.getD j 0 := by
  unfold imgL
  rw [getD_append_right (by simp; omega), getD_append_right (by simp; omega)]
  congr 1
  simp; omega
theorem img_isImage {n m o : Nat} {nodes outs : List Nat} (hn1 : 1 ≤ n) (hn4 : n ≤ 4) (hm : m ≤ 24) (ho1 : 1 ≤ o) (ho4 : o ≤ 4) (h1 : nodes.length = 3 * m) (h2 : outs.length = o) (ha1 : AllB nodes) (ha2 : AllB outs)
    (hok : ∀ k, k < m → okOp (nodes.getD (3 * k) 0) (nodes.getD (3 * k + 1) 0) (nodes.getD (3 * k + 2) 0) (n + k) = true) (hout : ∀ j, j < o → outs.getD j 0 < n + m) :
    isImage (bytesOf (imgL n m o nodes outs)) = true := by
  have ha := imgL_all (n := n) (m := m) (o := o) (by omega) (by omega) (by omega) ha1 ha2
  have z0 : bz (bytesOf (imgL n m o nodes outs)) 0 = 77 := by rw [bz_bytesOf ha]; rfl
  have z1 : bz (bytesOf (imgL n m o nodes outs)) 1 = n := by rw [bz_bytesOf ha]; rfl
  have z2 : bz (bytesOf (imgL n m o nodes outs)) 2 = m := by rw [bz_bytesOf ha]; rfl
  have z3 : bz (bytesOf (imgL n m o nodes outs)) 3 = o := by rw [bz_bytesOf ha]; rfl
  have hsz : (bytesOf (imgL n m o nodes outs)).size = 4 + 3 * m + o := by
    rw [bytesOf_size]; unfold imgL; simp [h1, h2]; omega
  unfold isImage
  have hh : headOk (bytesOf (imgL n m o nodes outs)) = true := by
    unfold headOk
    rw [z0, z1, z2, z3, hsz]
    simp; omega
  have hN : nodesOk (bytesOf (imgL n m o nodes outs)) m = true := by
    unfold nodesOk
    rw [List.all_eq_true]
    intro k hk
    have hk' : k < m := by simpa using hk
    rw [z1, bz_bytesOf ha, bz_bytesOf ha, bz_bytesOf ha, imgL_nodes h1 (by omega), show 5 + 3 * k = 4 + (3 * k + 1) from by omega, imgL_nodes h1 (by omega), show 6 + 3 * k = 4 + (3 * k + 2) from by omega, imgL_nodes h1 (by omega)]
    exact hok k hk'
  have hO : outsOk (bytesOf (imgL n m o nodes outs)) o = true := by
    unfold outsOk
    rw [List.all_eq_true]
    intro j hj
    have hj' : j < o := by simpa using hj
    rw [z1, z2, bz_bytesOf ha, imgL_outs h1]
    simpa using hout j hj'
  rw [z2, z3, hh, hN, hO]
  rfl
theorem img_bz {n m o : Nat} {nodes outs : List Nat} (hn4 : n ≤ 4) (hm : m ≤ 24) (ho4 : o ≤ 4) (ha1 : AllB nodes) (ha2 : AllB outs) :
    bz (bytesOf (imgL n m o nodes outs)) 1 = n ∧ bz (bytesOf (imgL n m o nodes outs)) 2 = m ∧ bz (bytesOf (imgL n m o nodes outs)) 3 = o := by
  have ha := imgL_all (n := n) (m := m) (o := o) (by omega) (by omega) (by omega) ha1 ha2
  refine ⟨?_, ?_, ?_⟩ <;> (rw [bz_bytesOf ha]; rfl)
theorem img_size {n m o : Nat} {nodes outs : List Nat} (h1 : nodes.length = 3 * m) (h2 : outs.length = o) : (bytesOf (imgL n m o nodes outs)).size = 4 + 3 * m + o := by
  rw [bytesOf_size]; unfold imgL; simp [h1, h2]; omega
theorem img_node {n m o : Nat} {nodes outs : List Nat} (hn4 : n ≤ 4) (hm : m ≤ 24) (ho4 : o ≤ 4) (ha1 : AllB nodes) (ha2 : AllB outs) (h1 : nodes.length = 3 * m) {j : Nat} (hj : j < 3 * m) : bz (bytesOf (imgL n m o nodes outs)) (4 + j) = nodes.getD j 0 := by
  have ha := imgL_all (n := n) (m := m) (o := o) (by omega) (by omega) (by omega) ha1 ha2
  rw [bz_bytesOf ha, imgL_nodes h1 hj]
theorem img_out {n m o : Nat} {nodes outs : List Nat} (hn4 : n ≤ 4) (hm : m ≤ 24) (ho4 : o ≤ 4) (ha1 : AllB nodes) (ha2 : AllB outs) (h1 : nodes.length = 3 * m) {j : Nat} : bz (bytesOf (imgL n m o nodes outs)) (4 + 3 * m + j) = outs.getD j 0 := by
  have ha := imgL_all (n := n) (m := m) (o := o) (by omega) (by omega) (by omega) ha1 ha2
  rw [bz_bytesOf ha, imgL_outs h1]

/-- two images with the same first nodes run alike -/
theorem runTo_same {s t q : ByteArray} {m : Nat} (h1 : bz s 1 = bz t 1) (h : ∀ j, j < 3 * m → bz s (4 + j) = bz t (4 + j)) (k : Nat) (hk : k ≤ m) : runTo s q k = runTo t q k := by
  induction k with
  | zero => simp [runTo, h1]
  | succ k ih =>
    rw [runTo, runTo, ih (by omega), h (3 * k) (by omega), show 5 + 3 * k = 4 + (3 * k + 1) from by omega, h (3 * k + 1) (by omega), show 6 + 3 * k = 4 + (3 * k + 2) from by omega, h (3 * k + 2) (by omega)]
theorem runTo_input {s q : ByteArray} {x : Nat} (hx : x < bz s 1) (k : Nat) : (runTo s q k).getD x 0 = wordVal ((bz q (2 * x) : Int) * 256 + bz q (2 * x + 1)) := by
  induction k with
  | zero => simp [runTo, insOf, hx]
  | succ k ih =>
    rw [runTo, List.getD_eq_getElem?_getD, List.getElem?_append_left (by rw [runTo_length]; omega), ← List.getD_eq_getElem?_getD]
    exact ih
theorem runTo_last {s q : ByteArray} (k : Nat) : (runTo s q (k + 1)).getD (bz s 1 + k) 0 = nodeVal (runTo s q k) (bz s (4 + 3 * k)) (bz s (5 + 3 * k)) (bz s (6 + 3 * k)) := by
  rw [runTo, List.getD_eq_getElem?_getD, List.getElem?_append_right (by rw [runTo_length]; omega), runTo_length]
  simp
theorem unword_wordVal {v : Int} (h0 : 0 ≤ v) (h1 : v < 65536) : unword (wordVal v) = v := by
  unfold unword wordVal
  split <;> split <;> omega
theorem wordL_wordVal {a b : Nat} (ha : a < 256) (hb : b < 256) : wordL (wordVal ((a : Int) * 256 + b)) = [a, b] := by
  unfold wordL
  rw [unword_wordVal (by omega) (by omega)]
  congr 1
  · omega
  · congr 1; omega
theorem wordL_all {v : Int} (h : IsVal v) : AllB (wordL v) := by
  have := unword_bd h
  intro x hx
  unfold wordL at hx
  simp at hx
  omega
/-- a word's two bytes give the value back -/
theorem word_back {v : Int} (h : IsVal v) : wordVal (((wordL v).getD 0 0 : Int) * 256 + ((wordL v).getD 1 0 : Nat)) = v := by
  have hb := unword_bd h
  have e : (((wordL v).getD 0 0 : Int) * 256 + ((wordL v).getD 1 0 : Nat)) = unword v := by
    show (((unword v / 256).toNat : Int) * 256 + ((unword v % 256).toNat : Nat)) = unword v
    omega
  rw [e, wordVal_unword h]
end Go.Proofs.Ytjfmiomopfjecaa.M

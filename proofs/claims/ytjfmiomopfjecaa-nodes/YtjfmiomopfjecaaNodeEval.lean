/- What the nets of the law answer, in plain words. -/
import Derived.Test.YtjfmiomopfjecaaNodeAsk
namespace Go.Proofs.Ytjfmiomopfjecaa
open Go.RowKit

theorem empty_append (b : ByteArray) : (⟨#[]⟩ : ByteArray) ++ b = b := by
  apply ByteArray.ext
  simp [ByteArray.data_append]

/-- the net with the two outputs x and y -/
def pairL (i : Int) (t : ByteArray) (x y : Nat) : List Nat := M.imgL (inN i) (nodesN t) 2 (M.nodesL (fstT t 72) (inN i) (nodesN t)) [x, y]
theorem pair_all {x y : Nat} (hx : x < 256) (hy : y < 256) : M.AllB [x, y] := by intro z hz; simp at hz; omega
theorem pair_facts (i : Int) (t : ByteArray) (x y : Nat) (hx : x < inN i + nodesN t) (hy : y < inN i + nodesN t) :
    M.isImage (M.bytesOf (pairL i t x y)) = true ∧ M.bz (M.bytesOf (pairL i t x y)) 1 = inN i ∧ M.bz (M.bytesOf (pairL i t x y)) 2 = nodesN t ∧ M.bz (M.bytesOf (pairL i t x y)) 3 = 2 ∧ (M.bytesOf (pairL i t x y)).size = 4 + 3 * nodesN t + 2 := by
  have bi := inN_bd i
  have bm := nodesN_le t
  have hl := M.nodesL_length (fstT t 72) (inN i) (nodesN t)
  have ha := M.nodesL_all (fstT t 72) (inN i) (nodesN t)
  have hao := pair_all (x := x) (y := y) (by omega) (by omega)
  have hb := M.img_bz (n := inN i) (m := nodesN t) (o := 2) bi.2 bm (by omega) ha hao
  refine ⟨?_, hb.1, hb.2.1, hb.2.2, M.img_size hl rfl⟩
  refine M.img_isImage bi.1 bi.2 bm (by omega) (by omega) hl rfl ha hao (fun k hk => nodes_ok i t k hk) ?_
  intro j hj
  match j, hj with
  | 0, _ => exact hx
  | 1, _ => exact hy
theorem pair_eval (i : Int) (t q : ByteArray) (x y : Nat) (hx : x < inN i + nodesN t) (hy : y < inN i + nodesN t) :
    M.evalOut (M.bytesOf (pairL i t x y)) q = M.bytesOf (M.wordL ((M.runTo (M.bytesOf (pairL i t x y)) q (nodesN t)).getD x 0) ++ M.wordL ((M.runTo (M.bytesOf (pairL i t x y)) q (nodesN t)).getD y 0)) := by
  have bi := inN_bd i
  have bm := nodesN_le t
  have hl := M.nodesL_length (fstT t 72) (inN i) (nodesN t)
  have ha := M.nodesL_all (fstT t 72) (inN i) (nodesN t)
  have hao := pair_all (x := x) (y := y) (by omega) (by omega)
  obtain ⟨_, _, f2, f3, _⟩ := pair_facts i t x y hx hy
  unfold M.evalOut
  rw [f2, f3]
  have o0 : M.bz (M.bytesOf (pairL i t x y)) (4 + 3 * nodesN t + 0) = x := M.img_out bi.2 bm (by omega) ha hao hl
  have o1 : M.bz (M.bytesOf (pairL i t x y)) (4 + 3 * nodesN t + 1) = y := M.img_out bi.2 bm (by omega) ha hao hl
  rw [M.outTo, M.outTo, M.outTo, o0, o1, empty_append, M.wordText_bytes, M.wordText_bytes, M.bytesOf_append]

theorem getD_snoc3 (l : List Nat) (a b c : Nat) (m : Nat) (h : l.length = 3 * m) (j : Nat) (hj : j < 3) : (l ++ [a, b, c]).getD (3 * m + j) 0 = [a, b, c].getD j 0 := by
  rw [M.getD_append_right (by omega), h]
  congr 1
  omega
theorem behind_facts (i : Int) (t : ByteArray) (op a b : Nat) (hm : nodesN t ≤ 23) (hop : op < 256) (ha' : a < 256) (hb' : b < 256) (hok : M.okOp op a b (inN i + nodesN t) = true) :
    M.isImage (M.bytesOf (behindL i t op a b)) = true ∧ M.bz (M.bytesOf (behindL i t op a b)) 1 = inN i ∧ M.bz (M.bytesOf (behindL i t op a b)) 2 = nodesN t + 1 ∧ M.bz (M.bytesOf (behindL i t op a b)) 3 = 1 := by
  have bi := inN_bd i
  have hl := M.nodesL_length (fstT t 72) (inN i) (nodesN t)
  have ha := M.nodesL_all (fstT t 72) (inN i) (nodesN t)
  have h3 : M.AllB [op, a, b] := by intro z hz; simp at hz; omega
  have ho : M.AllB [inN i + nodesN t] := by intro z hz; simp at hz; omega
  have hl' : (M.nodesL (fstT t 72) (inN i) (nodesN t) ++ [op, a, b]).length = 3 * (nodesN t + 1) := by rw [List.length_append, hl]; simp; omega
  have hb := M.img_bz (n := inN i) (m := nodesN t + 1) (o := 1) bi.2 (by omega) (by omega) (ha.append h3) ho
  refine ⟨?_, hb.1, hb.2.1, hb.2.2⟩
  refine M.img_isImage bi.1 bi.2 (by omega) (by omega) (by omega) hl' rfl (ha.append h3) ho ?_ ?_
  · intro k hk
    by_cases e : k < nodesN t
    · rw [M.getD_append_left (by omega), M.getD_append_left (by omega), M.getD_append_left (by omega)]
      exact nodes_ok i t k e
    · have e' : k = nodesN t := by omega
      subst e'
      have g0 := getD_snoc3 (M.nodesL (fstT t 72) (inN i) (nodesN t)) op a b (nodesN t) hl 0 (by omega)
      have g1 := getD_snoc3 (M.nodesL (fstT t 72) (inN i) (nodesN t)) op a b (nodesN t) hl 1 (by omega)
      have g2 := getD_snoc3 (M.nodesL (fstT t 72) (inN i) (nodesN t)) op a b (nodesN t) hl 2 (by omega)
      rw [Nat.add_zero] at g0
      rw [g0, g1, g2]
      exact hok
  · intro j hj
    match j, hj with
    | 0, _ => show inN i + nodesN t < _; omega
theorem behind_eval (i : Int) (t q : ByteArray) (op a b x y : Nat) (hm : nodesN t ≤ 23) (hop : op < 256) (ha' : a < 256) (hb' : b < 256) (hok : M.okOp op a b (inN i + nodesN t) = true) (hx : x < inN i + nodesN t) (hy : y < inN i + nodesN t) :
    M.evalOut (M.bytesOf (behindL i t op a b)) q = M.bytesOf (M.wordL (M.nodeVal (M.runTo (M.bytesOf (pairL i t x y)) q (nodesN t)) op a b)) := by
  have bi := inN_bd i
  have hl := M.nodesL_length (fstT t 72) (inN i) (nodesN t)
  have ha := M.nodesL_all (fstT t 72) (inN i) (nodesN t)
  have h3 : M.AllB [op, a, b] := by intro z hz; simp at hz; omega
  have ho : M.AllB [inN i + nodesN t] := by intro z hz; simp at hz; omega
  have hao := pair_all (x := x) (y := y) (by omega) (by omega)
  have hl' : (M.nodesL (fstT t 72) (inN i) (nodesN t) ++ [op, a, b]).length = 3 * (nodesN t + 1) := by rw [List.length_append, hl]; simp; omega
  obtain ⟨_, f1, f2, f3⟩ := behind_facts i t op a b hm hop ha' hb' hok
  obtain ⟨_, p1, p2, p3, _⟩ := pair_facts i t x y hx hy
  have hnode : ∀ j, j < 3 * (nodesN t + 1) → M.bz (M.bytesOf (behindL i t op a b)) (4 + j) = (M.nodesL (fstT t 72) (inN i) (nodesN t) ++ [op, a, b]).getD j 0 := fun j hj => M.img_node bi.2 (by omega) (by omega) (ha.append h3) ho hl' hj
  have hpn : ∀ j, j < 3 * nodesN t → M.bz (M.bytesOf (pairL i t x y)) (4 + j) = (M.nodesL (fstT t 72) (inN i) (nodesN t)).getD j 0 := fun j hj => M.img_node bi.2 (by omega) (by omega) ha hao hl hj
  have hrun : M.runTo (M.bytesOf (behindL i t op a b)) q (nodesN t) = M.runTo (M.bytesOf (pairL i t x y)) q (nodesN t) := by
    refine M.runTo_same (m := nodesN t) (by rw [f1, p1]) (fun j hj => ?_) (nodesN t) (Nat.le_refl _)
    rw [hnode j (by omega), hpn j hj, M.getD_append_left (by omega)]
  have o0 : M.bz (M.bytesOf (behindL i t op a b)) (4 + 3 * (nodesN t + 1) + 0) = inN i + nodesN t := M.img_out bi.2 (by omega) (by omega) (ha.append h3) ho hl'
  have g0 := hnode (3 * nodesN t) (by omega)
  have g1 := hnode (3 * nodesN t + 1) (by omega)
  have g2 := hnode (3 * nodesN t + 2) (by omega)
  rw [← Nat.add_zero (3 * nodesN t), getD_snoc3 _ _ _ _ _ hl 0 (by omega), Nat.add_zero] at g0
  rw [getD_snoc3 _ _ _ _ _ hl 1 (by omega), ← Nat.add_assoc] at g1
  rw [getD_snoc3 _ _ _ _ _ hl 2 (by omega), ← Nat.add_assoc] at g2
  have hlast := M.runTo_last (s := M.bytesOf (behindL i t op a b)) (q := q) (nodesN t)
  rw [f1, hrun, g0, show 5 + 3 * nodesN t = 4 + 3 * nodesN t + 1 from by omega, g1, show 6 + 3 * nodesN t = 4 + 3 * nodesN t + 2 from by omega, g2] at hlast
  unfold M.evalOut
  rw [f2, f3, M.outTo, M.outTo, o0, hlast, empty_append, M.wordText_bytes]
  rfl
/-- an input's word is what was asked -/
theorem asked (i : Int) (t inp : ByteArray) (x y z : Nat) (hx : x < inN i + nodesN t) (hy : y < inN i + nodesN t) (hz : z < inN i) :
    M.wordL ((M.runTo (M.bytesOf (pairL i t x y)) (M.bytesOf (M.fillL inp (2 * inN i))) (nodesN t)).getD z 0) = ((M.fillL inp (2 * inN i)).drop (2 * z)).take 2 := by
  obtain ⟨_, p1, _, _, _⟩ := pair_facts i t x y hx hy
  rw [M.runTo_input (by rw [p1]; exact hz), M.bz_bytesOf (M.fillL_all _ _), M.bz_bytesOf (M.fillL_all _ _), M.fillL_getD _ _ _ (by omega), M.fillL_getD _ _ _ (by omega), M.wordL_wordVal (M.bz_lt _ _) (M.bz_lt _ _)]
  apply List.ext_getElem?
  intro j
  rw [List.getElem?_take, List.getElem?_drop]
  have h0 : 2 * z < 2 * inN i := by omega
  have h1 : 2 * z + 1 < 2 * inN i := by omega
  match j with
  | 0 => simp [M.fillL, h0]
  | 1 => simp [M.fillL, h1]
  | j + 2 => rw [if_neg (by omega)]; simp
theorem does_eq (op : Nat) (l : List Int) (x y a b sh : Nat) (hop : op ≤ 7) (h0 : op ≠ 0) (ha : a = x) (h5 : op ≤ 5 → b = y) (h6 : op = 6 → b = sh) :
    M.nodeVal l op a b = doesV op (l.getD x 0) (l.getD y 0) sh := by
  subst ha
  have hops : op = 1 ∨ op = 2 ∨ op = 3 ∨ op = 4 ∨ op = 5 ∨ op = 6 ∨ op = 7 := by omega
  rcases hops with rfl | rfl | rfl | rfl | rfl | rfl | rfl
  · rw [h5 (by omega)]; simp [M.nodeVal, doesV, M.nodeDo]
  · rw [h5 (by omega)]; simp [M.nodeVal, doesV, M.nodeDo]
  · rw [h5 (by omega)]; simp [M.nodeVal, doesV, M.nodeDo]
  · rw [h5 (by omega)]; simp [M.nodeVal, doesV, M.nodeDo]
  · rw [h5 (by omega)]; simp [M.nodeVal, doesV, M.nodeDo]
  · rw [h6 rfl]; simp [M.nodeVal, doesV, M.nodeDo]
  · simp [M.nodeVal, doesV, M.nodeDo]
end Go.Proofs.Ytjfmiomopfjecaa

/- Texts laid together: ManRead, ManUse, DevNewWalk, DevSlots, DevOut, DevRaw, DevLook. -/
import Derived.Test.YtjfmiomopfjecabGreatWf
import Derived.Test.YtjfmiomopfjecabGreatWa
import Derived.Test.YtjfmiomopfjecabGreatWb
import Derived.Test.YtjfmiomopfjecabGreatWc
import Derived.Test.YtjfmiomopfjecabGreatWd
import Derived.Test.YtjfmiomopfjecabGreatWe
/- A manifest is read. -/
namespace Go.Proofs.YtjfmiomopfjecabGreat
open Go.RowKit Go.Lib

def readV (g : Nat → Nat) (v : Value) : Value :=
  match M.sealX g with
  | some at_ => .tuple #[manOf g v, .int .i64 at_, .bool true]
  | none => .tuple #[manZ, .int .i64 0, .bool false]
theorem ret_some {g : Nat → Nat} {at_ : Nat} {v u : Value} {n : Int} (h : M.sealX g = some at_) (hu : u = manOf g v) (hn : n = at_) : Ending.returned (.tuple #[u, .int .i64 n, .bool true]) = .returned (readV g v) := by
  unfold readV
  rw [h, hu, hn]
theorem ret_none {g : Nat → Nat} {v : Value} (h : M.sealX g = none) : Ending.returned (.tuple #[manZ, .int .i64 0, .bool false]) = .returned (readV g v) := by
  unfold readV
  rw [h]
theorem ownsRow_base {w : World} {base base' : Nat} {e : TypeId} {size : Nat} {v : Value} {n : Nat} {xs : List Value} (h : w.ownsRow base' e size v n xs) (hle : base ≤ base') : w.ownsRow base e size v n xs := by
  refine ⟨h.1, ?_⟩
  rcases h.2 with hn | ⟨g, cap, cur, hv, hb, rest⟩
  · exact .inl hn
  · exact .inr ⟨g, cap, cur, hv, Nat.le_trans hle hb, rest⟩
section
variable {g : Nat → Nat} {p n c a0 a2 a6 : Nat} {v : Value}
theorem man_zero (hp : g 4 = p) (hn : g 5 = n) (hc : M.chunksN p = c) (h0 : M.numAt g 0 = a0) (h2 : M.numAt g 2 = a2) (h6 : M.numAt g 6 = a6) (ht : g (8 + 2 * c) ≠ 1) : manV a0 a2 p n a6 v false ⟨#[]⟩ ⟨#[]⟩ = manOf g v := by
  subst hp hn hc h0 h2 h6
  unfold manOf
  have e1 : M.exB g = false := decide_eq_false ht
  have e2 : M.exQ g = ⟨#[]⟩ := if_neg ht
  have e3 : M.exA g = ⟨#[]⟩ := if_neg ht
  rw [e1, e2, e3]
theorem man_one (hp : g 4 = p) (hn : g 5 = n) (hc : M.chunksN p = c) (h0 : M.numAt g 0 = a0) (h2 : M.numAt g 2 = a2) (h6 : M.numAt g 6 = a6) (ht : g (8 + 2 * c) = 1) : manV a0 a2 p n a6 v true (M.mk (g (9 + 2 * c)) fun j => g (9 + 2 * c + 2 + j)) (M.mk (g (9 + 2 * c + 1)) fun j => g (9 + 2 * c + 2 + g (9 + 2 * c) + j)) = manOf g v := by
  subst hp hn hc h0 h2 h6
  unfold manOf
  have e1 : M.exB g = true := decide_eq_true ht
  have e2 : M.exQ g = M.mk (g (9 + 2 * M.chunksN (g 4))) fun j => g (11 + 2 * M.chunksN (g 4) + j) := if_pos ht
  have e3 : M.exA g = M.mk (g (10 + 2 * M.chunksN (g 4))) fun j => g (11 + 2 * M.chunksN (g 4) + g (9 + 2 * M.chunksN (g 4)) + j) := if_pos ht
  rw [e1, e2, e3, show 10 + 2 * M.chunksN (g 4) = 9 + 2 * M.chunksN (g 4) + 1 from by omega, show 11 + 2 * M.chunksN (g 4) = 9 + 2 * M.chunksN (g 4) + 2 from by omega]
theorem seal_zero (hp : g 4 = p) (hn : g 5 = n) (hc : M.chunksN p = c) (h1 : 1 ≤ p) (h2 : p ≤ 96) (h3 : 1 ≤ n) (h4 : n ≤ 96) (ht : g (8 + 2 * c) = 0) : M.sealX g = some (9 + 2 * c) := by
  subst hp hn hc
  unfold M.sealX
  rw [if_neg (by omega), if_pos ht]
theorem seal_one (hp : g 4 = p) (hn : g 5 = n) (hc : M.chunksN p = c) (h1 : 1 ≤ p) (h2 : p ≤ 96) (h3 : 1 ≤ n) (h4 : n ≤ 96) (ht : g (8 + 2 * c) = 1) (hq : g (9 + 2 * c) ≤ 8) (ha : g (9 + 2 * c + 1) ≤ 8) : M.sealX g = some (9 + 2 * c + 2 + g (9 + 2 * c) + g (9 + 2 * c + 1)) := by
  subst hp hn hc
  unfold M.sealX
  rw [show 10 + 2 * M.chunksN (g 4) = 9 + 2 * M.chunksN (g 4) + 1 from by omega, if_neg (by omega), if_neg (by omega), if_pos ht, if_neg (by omega), show 11 + 2 * M.chunksN (g 4) = 9 + 2 * M.chunksN (g 4) + 2 from by omega]
theorem seal_not (hp : g 4 = p) (hn : g 5 = n) (hc : M.chunksN p = c) (h1 : 1 ≤ p) (h2 : p ≤ 96) (h3 : 1 ≤ n) (h4 : n ≤ 96) (ht : 1 < g (8 + 2 * c) ∨ g (8 + 2 * c) = 1 ∧ (8 < g (9 + 2 * c) ∨ 8 < g (9 + 2 * c + 1))) : M.sealX g = none := by
  subst hp hn hc
  unfold M.sealX
  rw [show 10 + 2 * M.chunksN (g 4) = 9 + 2 * M.chunksN (g 4) + 1 from by omega, if_neg (by omega), if_neg (by omega)]
  rcases ht with ht | ⟨ht, h⟩
  · rw [if_neg (by omega)]
  · rw [if_pos ht, if_pos h]
end
set_option maxRecDepth 10000 in
theorem manRead_bad (s : ByteArray) (w : World) (hs : s.size ≤ maxLen) (h : M.bz s 4 < 1 ∨ 96 < M.bz s 4 ∨ M.bz s 5 < 1 ∨ 96 < M.bz s 5) :
    Calls Tryz.prog 142 #[.string s] w fun e w' => e = .returned (.tuple #[manZ, .int .i64 0, .bool false]) ∧ Below w.heap.size w w' := by
  have HL := hide hs
  have c1 : M.bz s 4 < 1 ∨ 1 ≤ M.bz s 4 ∧ 96 < M.bz s 4 ∨ 1 ≤ M.bz s 4 ∧ M.bz s 4 ≤ 96 ∧ M.bz s 5 < 1 ∨ 1 ≤ M.bz s 4 ∧ M.bz s 4 ≤ 96 ∧ 1 ≤ M.bz s 5 ∧ 96 < M.bz s 5 := by omega
  have HC := hide c1
  clear h c1
  go_enter Tryz.func142, Tryz.ntmps142
  go_wp2_with fail
  refine (manHead_any s _ (unhide HL)).mono ?_
  rintro e w1 ⟨rfl, hb1⟩
  obtain ⟨k1, hs1, hb⟩ := blk1 hb1
  obtain ⟨hx1, hf1⟩ := block_facts k1
  have HB := hide hb
  clear hb hb1 k1
  have l1 : w.heap.size < w1.heap.size := (by omega); have n1 : ¬ w.heap.size = w1.heap.size := (by omega)
  generalize M.bz s 4 = p at *
  generalize M.bz s 5 = n at *
  generalize M.numAt (M.bz s) 0 = a0 at *
  generalize M.numAt (M.bz s) 2 = a2 at *
  generalize M.numAt (M.bz s) 6 = a6 at *
  rcases unhide HC with h | ⟨h1, h2⟩ | ⟨h1, h2, h3⟩ | ⟨h1, h2, h3, h4⟩
  · have g1 : (p : Int) < 1 := by omega
    clear HC
    go_wp2
    refine bodyPost_ret (v := .tuple #[manZ, .int .i64 0, .bool false]) (by simp [results, Tryz.results142, go_sem, *]) rfl ⟨rfl, ?_⟩
    repeat (first | with_reducible exact unhide HB | with_reducible exact Below.refl _ _ | with_reducible refine bdrew ?_ | (with_reducible refine brow ?_ ?_; (focus (first | omega | (simp; done) | (simp; omega)))) | (with_reducible refine bset ?_ ?_; (focus (first | omega | (simp; done) | (simp; omega)))) | (with_reducible refine balloc ?_ ?_; (focus (first | omega | (simp; done) | (simp; omega)))) | (with_reducible refine bvia (unhide HB1) ?_ ?_; (focus (first | omega | (simp; done) | (simp; omega)))) | (with_reducible refine bvia (unhide HB2) ?_ ?_; (focus (first | omega | (simp; done) | (simp; omega)))) | (with_reducible refine bvia (unhide HB3) ?_ ?_; (focus (first | omega | (simp; done) | (simp; omega)))) | (with_reducible refine bvia (unhide HB4) ?_ ?_; (focus (first | omega | (simp; done) | (simp; omega)))) | (with_reducible refine bvia (unhide HB5) ?_ ?_; (focus (first | omega | (simp; done) | (simp; omega)))) | (with_reducible refine bvia (unhide HB6) ?_ ?_; (focus (first | omega | (simp; done) | (simp; omega)))))
  · have g1 : ¬ (p : Int) < 1 := by omega
    have g2 : (96 : Int) < (p : Int) := by omega
    clear HC
    go_wp2
    refine bodyPost_ret (v := .tuple #[manZ, .int .i64 0, .bool false]) (by simp [results, Tryz.results142, go_sem, *]) rfl ⟨rfl, ?_⟩
    repeat (first | with_reducible exact unhide HB | with_reducible exact Below.refl _ _ | with_reducible refine bdrew ?_ | (with_reducible refine brow ?_ ?_; (focus (first | omega | (simp; done) | (simp; omega)))) | (with_reducible refine bset ?_ ?_; (focus (first | omega | (simp; done) | (simp; omega)))) | (with_reducible refine balloc ?_ ?_; (focus (first | omega | (simp; done) | (simp; omega)))) | (with_reducible refine bvia (unhide HB1) ?_ ?_; (focus (first | omega | (simp; done) | (simp; omega)))) | (with_reducible refine bvia (unhide HB2) ?_ ?_; (focus (first | omega | (simp; done) | (simp; omega)))) | (with_reducible refine bvia (unhide HB3) ?_ ?_; (focus (first | omega | (simp; done) | (simp; omega)))) | (with_reducible refine bvia (unhide HB4) ?_ ?_; (focus (first | omega | (simp; done) | (simp; omega)))) | (with_reducible refine bvia (unhide HB5) ?_ ?_; (focus (first | omega | (simp; done) | (simp; omega)))) | (with_reducible refine bvia (unhide HB6) ?_ ?_; (focus (first | omega | (simp; done) | (simp; omega)))))
  · have g1 : ¬ (p : Int) < 1 := by omega
    have g2 : ¬ (96 : Int) < (p : Int) := by omega
    have g3 : (n : Int) < 1 := by omega
    clear HC
    go_wp2
    refine bodyPost_ret (v := .tuple #[manZ, .int .i64 0, .bool false]) (by simp [results, Tryz.results142, go_sem, *]) rfl ⟨rfl, ?_⟩
    repeat (first | with_reducible exact unhide HB | with_reducible exact Below.refl _ _ | with_reducible refine bdrew ?_ | (with_reducible refine brow ?_ ?_; (focus (first | omega | (simp; done) | (simp; omega)))) | (with_reducible refine bset ?_ ?_; (focus (first | omega | (simp; done) | (simp; omega)))) | (with_reducible refine balloc ?_ ?_; (focus (first | omega | (simp; done) | (simp; omega)))) | (with_reducible refine bvia (unhide HB1) ?_ ?_; (focus (first | omega | (simp; done) | (simp; omega)))) | (with_reducible refine bvia (unhide HB2) ?_ ?_; (focus (first | omega | (simp; done) | (simp; omega)))) | (with_reducible refine bvia (unhide HB3) ?_ ?_; (focus (first | omega | (simp; done) | (simp; omega)))) | (with_reducible refine bvia (unhide HB4) ?_ ?_; (focus (first | omega | (simp; done) | (simp; omega)))) | (with_reducible refine bvia (unhide HB5) ?_ ?_; (focus (first | omega | (simp; done) | (simp; omega)))) | (with_reducible refine bvia (unhide HB6) ?_ ?_; (focus (first | omega | (simp; done) | (simp; omega)))))
  · have g1 : ¬ (p : Int) < 1 := by omega
    have g2 : ¬ (96 : Int) < (p : Int) := by omega
    have g3 : ¬ (n : Int) < 1 := by omega
    have g4 : (96 : Int) < (n : Int) := by omega
    clear HC
    go_wp2
    refine bodyPost_ret (v := .tuple #[manZ, .int .i64 0, .bool false]) (by simp [results, Tryz.results142, go_sem, *]) rfl ⟨rfl, ?_⟩
    repeat (first | with_reducible exact unhide HB | with_reducible exact Below.refl _ _ | with_reducible refine bdrew ?_ | (with_reducible refine brow ?_ ?_; (focus (first | omega | (simp; done) | (simp; omega)))) | (with_reducible refine bset ?_ ?_; (focus (first | omega | (simp; done) | (simp; omega)))) | (with_reducible refine balloc ?_ ?_; (focus (first | omega | (simp; done) | (simp; omega)))) | (with_reducible refine bvia (unhide HB1) ?_ ?_; (focus (first | omega | (simp; done) | (simp; omega)))) | (with_reducible refine bvia (unhide HB2) ?_ ?_; (focus (first | omega | (simp; done) | (simp; omega)))) | (with_reducible refine bvia (unhide HB3) ?_ ?_; (focus (first | omega | (simp; done) | (simp; omega)))) | (with_reducible refine bvia (unhide HB4) ?_ ?_; (focus (first | omega | (simp; done) | (simp; omega)))) | (with_reducible refine bvia (unhide HB5) ?_ ?_; (focus (first | omega | (simp; done) | (simp; omega)))) | (with_reducible refine bvia (unhide HB6) ?_ ?_; (focus (first | omega | (simp; done) | (simp; omega)))))
set_option maxRecDepth 10000 in
set_option maxHeartbeats 2000000 in
theorem manRead_good (s : ByteArray) (w : World) (hs : s.size ≤ maxLen) (h1 : 1 ≤ M.bz s 4) (h2 : M.bz s 4 ≤ 96) (h3 : 1 ≤ M.bz s 5) (h4 : M.bz s 5 ≤ 96) :
    Calls Tryz.prog 142 #[.string s] w fun e w' => ∃ v, e = .returned (readV (M.bz s) v) ∧ w'.ownsRow (w.heap.size + 1) 3 1 v (M.chunksN (M.bz s 4)) (intCells (M.sumsL (M.bz s) (M.chunksN (M.bz s 4)))) ∧ Below w.heap.size w w' := by
  have HL := hide hs
  have hc6 : M.chunksN (M.bz s 4) ≤ 6 := by unfold M.chunksN; omega
  go_enter Tryz.func142, Tryz.ntmps142
  go_wp2_with fail
  refine (manHead_any s _ (unhide HL)).mono ?_
  rintro e w1 ⟨rfl, hb1⟩
  obtain ⟨k1, hs1, hb⟩ := blk1 hb1
  have K1 := hide k1
  have HB := hide hb
  clear hb hb1 k1
  have l1 : w.heap.size < w1.heap.size := (by omega); have n1 : ¬ w.heap.size = w1.heap.size := (by omega)
  generalize hp : M.bz s 4 = p at *
  generalize hn : M.bz s 5 = n at *
  generalize hc : M.chunksN p = c at *
  generalize hA0 : M.numAt (M.bz s) 0 = a0 at *
  generalize hA2 : M.numAt (M.bz s) 2 = a2 at *
  generalize hA6 : M.numAt (M.bz s) 6 = a6 at *
  have HP := hide hp
  have HN := hide hn
  have HC := hide hc
  have HA0 := hide hA0
  have HA2 := hide hA2
  have HA6 := hide hA6
  clear hp hn hc hA0 hA2 hA6
  have g1 : ¬ (p : Int) < 1 := by omega
  have g2 : ¬ (96 : Int) < (p : Int) := by omega
  have g3 : ¬ (n : Int) < 1 := by omega
  have g4 : ¬ (96 : Int) < (n : Int) := by omega
  go_wp2_with fail
  go_loopw [6, 7] (fun at' i' wr => ∃ (k : Nat) (v : Value), k ≤ c ∧ i' = .int .i64 k ∧ at' = .int .i64 (8 + 2 * (k : Int)) ∧ wr.heap[w.heap.size]? = some (.cells (manC 0 0 0 0 0 (.slice none 0 0) false ⟨#[]⟩ ⟨#[]⟩) 143 (0, 0)) ∧ wr.heap[w1.heap.size]? = some (.cells (manC a0 a2 p n a6 v false ⟨#[]⟩ ⟨#[]⟩) 143 (0, 0)) ∧ wr.ownsRow (w1.heap.size + 1) 3 1 v k (intCells (M.sumsL (M.bz s) k)) ∧ Below w.heap.size w wr) (fun _ i' _ => c - (intOf i').toNat)
  case atStart => exact ⟨0, .slice none 0 0, by omega, rfl, rfl, alloc_block (unhide K1) _, last_block _ _ rfl, World.ownsRow_nil _ _ _ _, (unhide HB).alloc (by omega) _⟩
  case round =>
    obtain ⟨k, v, hk, rfl, rfl, k1, k2, hown, hbel⟩ := hrel
    have HLen := hide (M.sumsL_length (M.bz s) k)
    obtain ⟨ao, cap, rfl, -⟩ := (holdsRow_own hown).shape
    obtain ⟨hx2, hf2⟩ := block_facts k2
    have hsz : w1.heap.size < wr.heap.size := (Array.getElem?_eq_some_iff.1 k2).1
    have K1 := hide k1
    have K2 := hide k2
    have HO := hide hown
    have HB2 := hide hbel
    clear k1 k2 hown hbel
    go_wp2_with fail
    refine (manChunks_any _ _ _ _ p _ _ _ _ _ (by omega)).mono ?_
    rintro e w2 ⟨rfl, hb2⟩
    rw [HC.out]
    clear hx2 hf2
    have k1 := kept_block hb2 (unhide K1)
    have k2 := kept_block hb2 (unhide K2)
    have hown := ownsRow_below (unhide HO) hb2
    have hbel := bvia hb2 (by omega) (unhide HB2)
    have hs2 := hb2.size
    clear K1 K2 HO HB2 hb2
    obtain ⟨hx2, hf2⟩ := block_facts k2
    have hsz2 : w1.heap.size < w2.heap.size := by omega
    have K1 := hide k1
    have K2 := hide k2
    have HO := hide hown
    have HB2 := hide hbel
    clear k1 k2 hown hbel
    by_cases hlt : k < c
    · have HS := hide (M.sumsL_succ (M.bz s) k)
      have hx5 := hx2 5
      go_wp2_with fail
      refine (wordNumber_any s _ (8 + 2 * k) _ (unhide HL) (by omega) (by omega)).mono ?_
      rintro e w' ⟨rfl, rfl⟩
      generalize hy : M.bz s (8 + 2 * k) * 256 + M.bz s (8 + 2 * k + 1) = y at *
      have HY : Hid (M.numAt (M.bz s) (8 + 2 * k) = y) := hy
      clear hy
      clear hx5
      go_wp2_with (at_builtin; (refine append_int _ rfl (.tmp 40) (.tmp 42) rfl (w1.heap.size + 1) (.slice ao k cap) (M.sumsL (M.bz s) k) y rfl rfl (by rw [HLen.out]; exact unhide HO) (by rw [HLen.out]; omega) (by omega) ?_); intro v' w3 hown3 hbel3 hsz3; have HO3 := hide hown3; obtain ⟨ao', cap', hv', -⟩ := (holdsRow_own hown3).shape; subst hv'; have HB3 := hide (hbel3 _ (Below.refl _ _)); obtain ⟨hx3, hf3⟩ := block_facts (((unhide HB3).block w1.heap.size (by omega)).trans (unhide K2)); clear hown3 hbel3)
      have hlen3 : Hid ((M.sumsL (M.bz s) k ++ [(y : Int)]).length = k + 1) := by show _ = _; rw [List.length_append, HLen.out]; rfl
      rw [HLen.out]
      have HR3 : Hid (w3.ownsRow (w1.heap.size + 1) 3 1 (.slice ao' (k + 1) cap') (k + 1) (intCells (M.sumsL (M.bz s) (k + 1)))) := by
        show World.ownsRow _ _ _ _ _ _ _
        rw [HS.out, HY.out]
        have := unhide HO3
        rw [hlen3.out] at this
        exact this
      refine ⟨⟨k + 1, .slice ao' (k + 1) cap', by omega, by go_num, congrArg (Value.int .i64) (by omega), ?_, ?_, ?_, ?_⟩, by simp [intOf]; omega⟩
      · exact set_block (((unhide HB3).block _ (by omega)).trans (unhide K1)) (by omega)
      · exact (setCell_in (((unhide HB3).block _ (by omega)).trans (unhide K2)) 5 _).trans rfl
      · exact ownsRow_setCell_below (unhide HR3) (a := ⟨w1.heap.size, 5, none⟩) (by show w1.heap.size < _; omega) _
      · exact ((unhide HB2).trans ((unhide HB3).mono (by omega))).setCell (by show w.heap.size ≤ w1.heap.size; omega) _
    · have hkc : k = c := by omega
      subst hkc
      go_wp2_with fail
      refine (wordByte_at s _ (8 + 2 * k) _ (unhide HL) (by omega)).mono ?_
      rintro e w' ⟨rfl, rfl⟩
      obtain ⟨hx1, hf1⟩ := block_facts (unhide K1)
      have hb := M.bz_lt s (8 + 2 * k)
      generalize hT : M.bz s (8 + 2 * k) = tg at *
      have HT := hide hT
      clear hT
      have l2 : w.heap.size < w2.heap.size := (by omega); have n2 : ¬ w.heap.size = w2.heap.size := (by omega)
      have HOw : Hid (w2.ownsRow (w.heap.size + 1) 3 1 (.slice ao k cap) k (intCells (M.sumsL (M.bz s) k))) := ownsRow_base (unhide HO) (by omega)
      by_cases ht0 : tg = 0
      · subst ht0
        have HX := hide (seal_zero HP.out HN.out HC.out h1 h2 h3 h4 HT.out)
        have HM := hide (man_zero (v := .slice ao k cap) HP.out HN.out HC.out HA0.out HA2.out HA6.out (by rw [HT.out]; decide))
        have HB3 : Hid (Below w.heap.size w w2) := unhide HB2
        clear HB
        have HB := HB3
        go_wp2
        refine bodyPost_ret (v := .tuple #[manV a0 a2 p n a6 (.slice ao k cap) false ⟨#[]⟩ ⟨#[]⟩, .int .i64 (8 + 2 * (k : Int) + 1), .bool true]) (by simp [results, Tryz.results142, go_sem, hx1]) rfl ⟨.slice ao k cap, ret_some HX.out HM.out (by omega), ?_, ?_⟩
        · rw [HP.out, HC.out]
          iterate 9 refine ownsRow_setCell_below ?_ (by show w.heap.size < _; omega) _
          exact unhide HOw
        · repeat (first | with_reducible exact unhide HB | with_reducible exact Below.refl _ _ | with_reducible refine bdrew ?_ | (with_reducible refine brow ?_ ?_; (focus (first | omega | (simp; done) | (simp; omega)))) | (with_reducible refine bset ?_ ?_; (focus (first | omega | (simp; done) | (simp; omega)))) | (with_reducible refine balloc ?_ ?_; (focus (first | omega | (simp; done) | (simp; omega)))) | (with_reducible refine bvia (unhide HB1) ?_ ?_; (focus (first | omega | (simp; done) | (simp; omega)))) | (with_reducible refine bvia (unhide HB2) ?_ ?_; (focus (first | omega | (simp; done) | (simp; omega)))) | (with_reducible refine bvia (unhide HB3) ?_ ?_; (focus (first | omega | (simp; done) | (simp; omega)))) | (with_reducible refine bvia (unhide HB4) ?_ ?_; (focus (first | omega | (simp; done) | (simp; omega)))) | (with_reducible refine bvia (unhide HB5) ?_ ?_; (focus (first | omega | (simp; done) | (simp; omega)))) | (with_reducible refine bvia (unhide HB6) ?_ ?_; (focus (first | omega | (simp; done) | (simp; omega)))))
      · have e0 : ¬ (tg : Int) = 0 := by omega
        by_cases ht1 : tg = 1
        · subst ht1
          by_cases hqa : M.bz s (9 + 2 * k) ≤ 8 ∧ M.bz s (9 + 2 * k + 1) ≤ 8
          · have HX := hide (seal_one HP.out HN.out HC.out h1 h2 h3 h4 HT.out hqa.1 hqa.2)
            have HM := hide (man_one (v := .slice ao k cap) HP.out HN.out HC.out HA0.out HA2.out HA6.out HT.out)
            have HQ := hide hqa
            clear hqa
            go_wp2_with fail
            refine (manWith_yes _ _ _ _ _ ao k cap s (9 + 2 * k) _ _ (unhide HL) (by omega) (by omega) (unhide HQ).1 (unhide HQ).2).mono ?_
            rintro e w3 ⟨rfl, hb3⟩
            rw [HM.out]
            have k1 := kept_block hb3 (unhide K1)
            clear hx1 hf1 hx2 hf2
            obtain ⟨hx1, hf1⟩ := block_facts k1
            have HOw3 := hide (ownsRow_below (unhide HOw) hb3)
            have hs3 := hb3.size
            have HB3 : Hid (Below w.heap.size w w3) := bvia hb3 (by omega) (unhide HB2)
            clear HB hb3 k1
            have HB := HB3
            clear HB3
            have l3 : w.heap.size < w3.heap.size := (by omega); have n3 : ¬ w.heap.size = w3.heap.size := (by omega)
            generalize hat : 9 + 2 * k + 2 + M.bz s (9 + 2 * k) + M.bz s (9 + 2 * k + 1) = at_ at *
            clear hat
            go_wp2
            refine bodyPost_ret (v := .tuple #[manOf (M.bz s) (.slice ao k cap), .int .i64 at_, .bool true]) (by simp [results, Tryz.results142, go_sem, hx1]) rfl ⟨.slice ao k cap, ret_some HX.out rfl rfl, ?_, ?_⟩
            · rw [HP.out, HC.out]
              iterate 9 refine ownsRow_setCell_below ?_ (by show w.heap.size < _; omega) _
              exact unhide HOw3
            · repeat (first | with_reducible exact unhide HB | with_reducible exact Below.refl _ _ | with_reducible refine bdrew ?_ | (with_reducible refine brow ?_ ?_; (focus (first | omega | (simp; done) | (simp; omega)))) | (with_reducible refine bset ?_ ?_; (focus (first | omega | (simp; done) | (simp; omega)))) | (with_reducible refine balloc ?_ ?_; (focus (first | omega | (simp; done) | (simp; omega)))) | (with_reducible refine bvia (unhide HB1) ?_ ?_; (focus (first | omega | (simp; done) | (simp; omega)))) | (with_reducible refine bvia (unhide HB2) ?_ ?_; (focus (first | omega | (simp; done) | (simp; omega)))) | (with_reducible refine bvia (unhide HB3) ?_ ?_; (focus (first | omega | (simp; done) | (simp; omega)))) | (with_reducible refine bvia (unhide HB4) ?_ ?_; (focus (first | omega | (simp; done) | (simp; omega)))) | (with_reducible refine bvia (unhide HB5) ?_ ?_; (focus (first | omega | (simp; done) | (simp; omega)))) | (with_reducible refine bvia (unhide HB6) ?_ ?_; (focus (first | omega | (simp; done) | (simp; omega)))))
          · have HX := hide (seal_not HP.out HN.out HC.out h1 h2 h3 h4 (.inr ⟨HT.out, by omega⟩))
            have HQ : Hid (8 < M.bz s (9 + 2 * k) ∨ 8 < M.bz s (9 + 2 * k + 1)) := by show _ ∨ _; omega
            clear hqa
            go_wp2_with fail
            refine (manWith_no _ _ _ _ _ ao k cap s (9 + 2 * k) _ _ (unhide HL) (by omega) (by omega) (unhide HQ)).mono ?_
            rintro e w3 ⟨rfl, hb3⟩
            have k1 := kept_block hb3 (unhide K1)
            clear hx1 hf1 hx2 hf2
            obtain ⟨hx1, hf1⟩ := block_facts k1
            have HOw3 := hide (ownsRow_below (unhide HOw) hb3)
            have hs3 := hb3.size
            have HB3 : Hid (Below w.heap.size w w3) := bvia hb3 (by omega) (unhide HB2)
            clear HB hb3 k1
            have HB := HB3
            clear HB3
            have l3 : w.heap.size < w3.heap.size := (by omega); have n3 : ¬ w.heap.size = w3.heap.size := (by omega)
            go_wp2
            refine bodyPost_ret (v := .tuple #[manZ, .int .i64 0, .bool false]) (by simp [results, Tryz.results142, go_sem, hx1]) rfl ⟨.slice ao k cap, ret_none HX.out, ?_, ?_⟩
            · rw [HP.out, HC.out]
              iterate 9 refine ownsRow_setCell_below ?_ (by show w.heap.size < _; omega) _
              exact unhide HOw3
            · repeat (first | with_reducible exact unhide HB | with_reducible exact Below.refl _ _ | with_reducible refine bdrew ?_ | (with_reducible refine brow ?_ ?_; (focus (first | omega | (simp; done) | (simp; omega)))) | (with_reducible refine bset ?_ ?_; (focus (first | omega | (simp; done) | (simp; omega)))) | (with_reducible refine balloc ?_ ?_; (focus (first | omega | (simp; done) | (simp; omega)))) | (with_reducible refine bvia (unhide HB1) ?_ ?_; (focus (first | omega | (simp; done) | (simp; omega)))) | (with_reducible refine bvia (unhide HB2) ?_ ?_; (focus (first | omega | (simp; done) | (simp; omega)))) | (with_reducible refine bvia (unhide HB3) ?_ ?_; (focus (first | omega | (simp; done) | (simp; omega)))) | (with_reducible refine bvia (unhide HB4) ?_ ?_; (focus (first | omega | (simp; done) | (simp; omega)))) | (with_reducible refine bvia (unhide HB5) ?_ ?_; (focus (first | omega | (simp; done) | (simp; omega)))) | (with_reducible refine bvia (unhide HB6) ?_ ?_; (focus (first | omega | (simp; done) | (simp; omega)))))
        · have e1 : ¬ (tg : Int) = 1 := by omega
          have HX := hide (seal_not HP.out HN.out HC.out h1 h2 h3 h4 (.inl (by rw [HT.out]; omega)))
          clear HB
          have HB := HB2
          go_wp2
          refine bodyPost_ret (v := .tuple #[manZ, .int .i64 0, .bool false]) (by simp [results, Tryz.results142, go_sem, hx1]) rfl ⟨.slice ao k cap, ret_none HX.out, ?_, ?_⟩
          · rw [HP.out, HC.out]
            iterate 9 refine ownsRow_setCell_below ?_ (by show w.heap.size < _; omega) _
            exact unhide HOw
          · repeat (first | with_reducible exact unhide HB | with_reducible exact Below.refl _ _ | with_reducible refine bdrew ?_ | (with_reducible refine brow ?_ ?_; (focus (first | omega | (simp; done) | (simp; omega)))) | (with_reducible refine bset ?_ ?_; (focus (first | omega | (simp; done) | (simp; omega)))) | (with_reducible refine balloc ?_ ?_; (focus (first | omega | (simp; done) | (simp; omega)))) | (with_reducible refine bvia (unhide HB1) ?_ ?_; (focus (first | omega | (simp; done) | (simp; omega)))) | (with_reducible refine bvia (unhide HB2) ?_ ?_; (focus (first | omega | (simp; done) | (simp; omega)))) | (with_reducible refine bvia (unhide HB3) ?_ ?_; (focus (first | omega | (simp; done) | (simp; omega)))) | (with_reducible refine bvia (unhide HB4) ?_ ?_; (focus (first | omega | (simp; done) | (simp; omega)))) | (with_reducible refine bvia (unhide HB5) ?_ ?_; (focus (first | omega | (simp; done) | (simp; omega)))) | (with_reducible refine bvia (unhide HB6) ?_ ?_; (focus (first | omega | (simp; done) | (simp; omega)))))
end Go.Proofs.YtjfmiomopfjecabGreat

/- Manifests: parsed, taken from the flash, asked. -/
namespace Go.Proofs.YtjfmiomopfjecabGreat
open Go.RowKit Go.Lib

theorem manRead_any (s : ByteArray) (w : World) (hs : s.size ≤ maxLen) :
    Calls Tryz.prog 142 #[.string s] w fun e w' => ∃ ao n cap, e = .returned (readV (M.bz s) (.slice ao n cap)) ∧ (∀ at_, M.sealX (M.bz s) = some at_ → n = M.chunksN (M.bz s 4) ∧ w'.ownsRow (w.heap.size + 1) 3 1 (.slice ao n cap) n (intCells (M.sumsL (M.bz s) n))) ∧ Below w.heap.size w w' := by
  by_cases h : M.bz s 4 < 1 ∨ 96 < M.bz s 4 ∨ M.bz s 5 < 1 ∨ 96 < M.bz s 5
  · have hx : M.sealX (M.bz s) = none := if_pos h
    refine (manRead_bad s w hs h).mono ?_
    rintro e w' ⟨rfl, hb⟩
    exact ⟨none, 0, 0, ret_none hx, (fun at_ e => by rw [hx] at e; cases e), hb⟩
  · refine (manRead_good s w hs (by omega) (by omega) (by omega) (by omega)).mono ?_
    rintro e w' ⟨v, rfl, hown, hb⟩
    obtain ⟨ao, cap, rfl, -⟩ := (holdsRow_own hown).shape
    exact ⟨ao, _, cap, rfl, fun at_ _ => ⟨rfl, hown⟩, hb⟩
theorem text_inj {a b : ByteArray} (h : a.toList = b.toList) : a = b := by
  rw [ByteArray.toList_eq, ByteArray.toList_eq] at h
  exact ByteArray.ext (Array.toList_inj.1 h)
theorem readV_some {g : Nat → Nat} {at_ : Nat} {v : Value} (h : M.sealX g = some at_) : readV g v = .tuple #[manOf g v, .int .i64 at_, .bool true] := by unfold readV; rw [h]
theorem readV_none {g : Nat → Nat} {v : Value} (h : M.sealX g = none) : readV g v = .tuple #[manZ, .int .i64 0, .bool false] := by unfold readV; rw [h]
set_option maxRecDepth 10000 in
theorem manStored_any (s : ByteArray) (at_ : Nat) (w : World) (hs : s.size ≤ maxLen) (h : M.sealX (M.bz s) = some at_) :
    Calls Tryz.prog 115 #[.string s] w fun e w' => ∃ ao cap, e = .returned (manOf (M.bz s) (.slice ao (M.chunksN (M.bz s 4)) cap)) ∧ w'.ownsRow (w.heap.size + 1) 3 1 (.slice ao (M.chunksN (M.bz s 4)) cap) (M.chunksN (M.bz s 4)) (intCells (M.sumsL (M.bz s) (M.chunksN (M.bz s 4)))) ∧ Below w.heap.size w w' := by
  have HL := hide hs
  have HX := hide h
  clear h
  go_enter Tryz.func115, Tryz.ntmps115
  go_wp2_with fail
  refine (manRead_any s _ (unhide HL)).mono ?_
  rintro e w1 ⟨ao, n, cap, rfl, ho, hb1⟩
  obtain ⟨rfl, hown⟩ := ho at_ HX.out
  rw [readV_some HX.out]
  obtain ⟨k1, hs1, hb⟩ := blk1 hb1
  obtain ⟨hx1, hf1⟩ := block_facts k1
  have HO := hide (ownsRow_base hown (show w.heap.size + 1 ≤ _ by simp))
  have HB := hide hb
  clear hb hb1 k1 hown ho
  have l1 : w.heap.size < w1.heap.size := (by omega); have n1 : ¬ w.heap.size = w1.heap.size := (by omega)
  generalize hN : M.chunksN (M.bz s 4) = n at *
  have HN := hide hN
  clear hN
  go_wp2
  refine bodyPost_ret (v := manOf (M.bz s) (.slice ao n cap)) (by simp [results, Tryz.results115, go_sem, hx1, l1]) rfl ?_
  rw [HN.out]
  refine ⟨ao, cap, rfl, ?_, ?_⟩
  · refine World.ownsRow.alloc ?_ _
    iterate 9 refine ownsRow_setCell_below ?_ (by show w.heap.size < _; omega) _
    exact unhide HO
  · repeat (first | with_reducible exact unhide HB | with_reducible exact Below.refl _ _ | with_reducible refine bdrew ?_ | (with_reducible refine brow ?_ ?_; (focus (first | omega | (simp; done) | (simp; omega)))) | (with_reducible refine bset ?_ ?_; (focus (first | omega | (simp; done) | (simp; omega)))) | (with_reducible refine balloc ?_ ?_; (focus (first | omega | (simp; done) | (simp; omega)))) | (with_reducible refine bvia (unhide HB1) ?_ ?_; (focus (first | omega | (simp; done) | (simp; omega)))) | (with_reducible refine bvia (unhide HB2) ?_ ?_; (focus (first | omega | (simp; done) | (simp; omega)))) | (with_reducible refine bvia (unhide HB3) ?_ ?_; (focus (first | omega | (simp; done) | (simp; omega)))) | (with_reducible refine bvia (unhide HB4) ?_ ?_; (focus (first | omega | (simp; done) | (simp; omega)))) | (with_reducible refine bvia (unhide HB5) ?_ ?_; (focus (first | omega | (simp; done) | (simp; omega)))) | (with_reducible refine bvia (unhide HB6) ?_ ?_; (focus (first | omega | (simp; done) | (simp; omega)))))
set_option maxRecDepth 10000 in
set_option maxHeartbeats 1000000 in
theorem manParse_yes (key s : ByteArray) (w : World) (hk : key.size ≤ 16) (hs : s.size ≤ maxLen) (h : M.isMan key s = true) :
    Calls Tryz.prog 163 #[.string key, .string s] w fun e w' => ∃ ao n cap, e = .returned (.tuple #[manOf (M.bz s) (.slice ao n cap), .bool true]) ∧ Below w.heap.size w w' := by
  have HL := hide hs
  unfold M.isMan at h
  cases hX : M.sealX (M.bz s) with
  | none => rw [hX] at h; cases h
  | some at_ =>
    rw [hX] at h
    simp only [Bool.and_eq_true, decide_eq_true_eq] at h
    obtain ⟨hsz, hcr⟩ := h
    have hle := M.sealX_le hX
    have hat : at_ ≤ 39 := hle.1
    have HX := hide hX
    have HCR := hide hcr
    have HSZ := hide hsz
    have hsi : (at_ : Int) + 2 = (s.size : Int) := by omega
    have HSI := hide hsi
    have hne : ((at_ : Int) + 2 != (s.size : Int)) = false := by rw [hsi]; simp
    clear hX hcr hsz hle hsi
    go_enter Tryz.func163, Tryz.ntmps163
    go_wp2_with fail
    refine (manRead_any s _ (unhide HL)).mono ?_
    rintro e w1 ⟨ao, n, cap, rfl, -, hb1⟩
    rw [readV_some HX.out]
    obtain ⟨k1, hs1, hb⟩ := blk1 hb1
    have K1 := hide k1
    have HB := hide hb
    clear hb hb1 k1
    have l1 : w.heap.size < w1.heap.size := (by omega); have n1 : ¬ w.heap.size = w1.heap.size := (by omega)
    go_wp2_with fail
    refine (padded_any s 0 at_ _ _ (unhide HL) (by omega) (by omega) rfl).mono ?_
    rintro e w2 ⟨rfl, hb2⟩
    have HP : Hid ((M.mk at_ fun j => M.bz s (0 + j)) = M.mk at_ (M.bz s)) := by show _ = _; congr 1; funext j; rw [Nat.zero_add]
    rw [HP.out]
    have HPS : Hid ((M.mk at_ (M.bz s)).size = at_) := M.mk_size _ _
    have hps : (M.mk at_ (M.bz s)).size ≤ 39 := by rw [M.mk_size]; omega
    generalize M.mk at_ (M.bz s) = P at *
    have k1 := kept_block hb2 (alloc_block (unhide K1) _)
    obtain ⟨k2, hs2, hb⟩ := blk1 hb2
    obtain ⟨hx1, hf1⟩ := block_facts k1
    obtain ⟨hx2, hf2⟩ := block_facts k2
    have HB2 : Hid (Below w.heap.size w w2) := (unhide HB).trans (hb.mono (by omega))
    clear hb hb2 k1 k2 K1 HP HPS HB
    have HB := HB2
    clear HB2
    have l2 : w.heap.size < w2.heap.size := (by omega); have n2 : ¬ w.heap.size = w2.heap.size := (by omega)
    have l3 : w1.heap.size < w2.heap.size := (by omega); have n3 : ¬ w1.heap.size = w2.heap.size := (by omega)
    go_wp2_with fail
    refine (wordNumber_any s _ at_ _ (unhide HL) rfl (by omega)).mono ?_
    rintro e w' ⟨rfl, rfl⟩
    generalize M.bz s at_ * 256 + M.bz s (at_ + 1) = D at *
    go_wp2_with fail
    refine (sumOf_any (key ++ P) _ (by rw [ByteArray.size_append]; unfold maxLen; omega)).mono ?_
    rintro e w' ⟨rfl, rfl⟩
    generalize M.crc (key ++ P).data.toList = C at *
    have hbc : ((C : Int) != (D : Int)) = false := by have := HCR.out; simp; omega
    go_wp2
    refine bodyPost_ret (v := .tuple #[manOf (M.bz s) (.slice ao n cap), .bool true]) (by simp [results, Tryz.results163, go_sem, hx1]) rfl ⟨ao, n, cap, rfl, ?_⟩
    repeat (first | with_reducible exact unhide HB | with_reducible exact Below.refl _ _ | with_reducible refine bdrew ?_ | (with_reducible refine brow ?_ ?_; (focus (first | omega | (simp; done) | (simp; omega)))) | (with_reducible refine bset ?_ ?_; (focus (first | omega | (simp; done) | (simp; omega)))) | (with_reducible refine balloc ?_ ?_; (focus (first | omega | (simp; done) | (simp; omega)))) | (with_reducible refine bvia (unhide HB1) ?_ ?_; (focus (first | omega | (simp; done) | (simp; omega)))) | (with_reducible refine bvia (unhide HB2) ?_ ?_; (focus (first | omega | (simp; done) | (simp; omega)))) | (with_reducible refine bvia (unhide HB3) ?_ ?_; (focus (first | omega | (simp; done) | (simp; omega)))) | (with_reducible refine bvia (unhide HB4) ?_ ?_; (focus (first | omega | (simp; done) | (simp; omega)))) | (with_reducible refine bvia (unhide HB5) ?_ ?_; (focus (first | omega | (simp; done) | (simp; omega)))) | (with_reducible refine bvia (unhide HB6) ?_ ?_; (focus (first | omega | (simp; done) | (simp; omega)))))
set_option maxRecDepth 10000 in
set_option maxHeartbeats 1000000 in
theorem manParse_no (key s : ByteArray) (w : World) (hk : key.size ≤ 16) (hs : s.size ≤ maxLen) (h : M.isMan key s = false) :
    Calls Tryz.prog 163 #[.string key, .string s] w fun e w' => e = .returned (.tuple #[manZ, .bool false]) ∧ Below w.heap.size w w' := by
  have HL := hide hs
  unfold M.isMan at h
  cases hX : M.sealX (M.bz s) with
  | none =>
    have HX := hide hX
    clear hX h
    go_enter Tryz.func163, Tryz.ntmps163
    go_wp2_with fail
    refine (manRead_any s _ (unhide HL)).mono ?_
    rintro e w1 ⟨ao, n, cap, rfl, -, hb1⟩
    rw [readV_none HX.out]
    obtain ⟨k1, hs1, hb⟩ := blk1 hb1
    obtain ⟨hx1, hf1⟩ := block_facts k1
    have HB := hide hb
    clear hb hb1 k1
    have l1 : w.heap.size < w1.heap.size := (by omega); have n1 : ¬ w.heap.size = w1.heap.size := (by omega)
    go_wp2
    refine bodyPost_ret (v := .tuple #[manZ, .bool false]) (by simp [results, Tryz.results163, go_sem, hx1, l1]) rfl ⟨rfl, ?_⟩
    repeat (first | with_reducible exact unhide HB | with_reducible exact Below.refl _ _ | with_reducible refine bdrew ?_ | (with_reducible refine brow ?_ ?_; (focus (first | omega | (simp; done) | (simp; omega)))) | (with_reducible refine bset ?_ ?_; (focus (first | omega | (simp; done) | (simp; omega)))) | (with_reducible refine balloc ?_ ?_; (focus (first | omega | (simp; done) | (simp; omega)))) | (with_reducible refine bvia (unhide HB1) ?_ ?_; (focus (first | omega | (simp; done) | (simp; omega)))) | (with_reducible refine bvia (unhide HB2) ?_ ?_; (focus (first | omega | (simp; done) | (simp; omega)))) | (with_reducible refine bvia (unhide HB3) ?_ ?_; (focus (first | omega | (simp; done) | (simp; omega)))) | (with_reducible refine bvia (unhide HB4) ?_ ?_; (focus (first | omega | (simp; done) | (simp; omega)))) | (with_reducible refine bvia (unhide HB5) ?_ ?_; (focus (first | omega | (simp; done) | (simp; omega)))) | (with_reducible refine bvia (unhide HB6) ?_ ?_; (focus (first | omega | (simp; done) | (simp; omega)))))
  | some at_ =>
    rw [hX] at h
    have hle := M.sealX_le hX
    have hat : at_ ≤ 39 := hle.1
    have HX := hide hX
    by_cases hsz : s.size = at_ + 2
    · have hcr : M.bz s at_ * 256 + M.bz s (at_ + 1) ≠ M.crc (key ++ M.mk at_ (M.bz s)).data.toList := by
        intro e
        simp [hsz, e] at h
      have HCR := hide hcr
      have hsi : (at_ : Int) + 2 = (s.size : Int) := by omega
      have hne : ((at_ : Int) + 2 != (s.size : Int)) = false := by rw [hsi]; simp
      clear hX hcr hsz hle hsi h
      go_enter Tryz.func163, Tryz.ntmps163
      go_wp2_with fail
      refine (manRead_any s _ (unhide HL)).mono ?_
      rintro e w1 ⟨ao, n, cap, rfl, -, hb1⟩
      rw [readV_some HX.out]
      obtain ⟨k1, hs1, hb⟩ := blk1 hb1
      have K1 := hide k1
      have HB := hide hb
      clear hb hb1 k1
      have l1 : w.heap.size < w1.heap.size := (by omega); have n1 : ¬ w.heap.size = w1.heap.size := (by omega)
      go_wp2_with fail
      refine (padded_any s 0 at_ _ _ (unhide HL) (by omega) (by omega) rfl).mono ?_
      rintro e w2 ⟨rfl, hb2⟩
      have HP : Hid ((M.mk at_ fun j => M.bz s (0 + j)) = M.mk at_ (M.bz s)) := by show _ = _; congr 1; funext j; rw [Nat.zero_add]
      rw [HP.out]
      have hps : (M.mk at_ (M.bz s)).size ≤ 39 := by rw [M.mk_size]; omega
      generalize M.mk at_ (M.bz s) = P at *
      have k1 := kept_block hb2 (alloc_block (unhide K1) _)
      obtain ⟨k2, hs2, hb⟩ := blk1 hb2
      obtain ⟨hx1, hf1⟩ := block_facts k1
      obtain ⟨hx2, hf2⟩ := block_facts k2
      have HB2 : Hid (Below w.heap.size w w2) := (unhide HB).trans (hb.mono (by omega))
      clear hb hb2 k1 k2 K1 HP HB
      have HB := HB2
      clear HB2
      have l2 : w.heap.size < w2.heap.size := (by omega); have n2 : ¬ w.heap.size = w2.heap.size := (by omega)
      have l3 : w1.heap.size < w2.heap.size := (by omega); have n3 : ¬ w1.heap.size = w2.heap.size := (by omega)
      go_wp2_with fail
      refine (wordNumber_any s _ at_ _ (unhide HL) rfl (by omega)).mono ?_
      rintro e w' ⟨rfl, rfl⟩
      generalize M.bz s at_ * 256 + M.bz s (at_ + 1) = D at *
      go_wp2_with fail
      refine (sumOf_any (key ++ P) _ (by rw [ByteArray.size_append]; unfold maxLen; omega)).mono ?_
      rintro e w' ⟨rfl, rfl⟩
      generalize M.crc (key ++ P).data.toList = C at *
      have hbc : ((C : Int) != (D : Int)) = true := by have := HCR.out; simp; omega
      go_wp2
      refine bodyPost_ret (v := .tuple #[manZ, .bool false]) (by simp [results, Tryz.results163, go_sem, hx1]) rfl ⟨rfl, ?_⟩
      repeat (first | with_reducible exact unhide HB | with_reducible exact Below.refl _ _ | with_reducible refine bdrew ?_ | (with_reducible refine brow ?_ ?_; (focus (first | omega | (simp; done) | (simp; omega)))) | (with_reducible refine bset ?_ ?_; (focus (first | omega | (simp; done) | (simp; omega)))) | (with_reducible refine balloc ?_ ?_; (focus (first | omega | (simp; done) | (simp; omega)))) | (with_reducible refine bvia (unhide HB1) ?_ ?_; (focus (first | omega | (simp; done) | (simp; omega)))) | (with_reducible refine bvia (unhide HB2) ?_ ?_; (focus (first | omega | (simp; done) | (simp; omega)))) | (with_reducible refine bvia (unhide HB3) ?_ ?_; (focus (first | omega | (simp; done) | (simp; omega)))) | (with_reducible refine bvia (unhide HB4) ?_ ?_; (focus (first | omega | (simp; done) | (simp; omega)))) | (with_reducible refine bvia (unhide HB5) ?_ ?_; (focus (first | omega | (simp; done) | (simp; omega)))) | (with_reducible refine bvia (unhide HB6) ?_ ?_; (focus (first | omega | (simp; done) | (simp; omega)))))
    · have hne : ((at_ : Int) + 2 != (s.size : Int)) = true := by simp; omega
      clear hX hle h
      go_enter Tryz.func163, Tryz.ntmps163
      go_wp2_with fail
      refine (manRead_any s _ (unhide HL)).mono ?_
      rintro e w1 ⟨ao, n, cap, rfl, -, hb1⟩
      rw [readV_some HX.out]
      obtain ⟨k1, hs1, hb⟩ := blk1 hb1
      obtain ⟨hx1, hf1⟩ := block_facts k1
      have HB := hide hb
      clear hb hb1 k1
      have l1 : w.heap.size < w1.heap.size := (by omega); have n1 : ¬ w.heap.size = w1.heap.size := (by omega)
      go_wp2
      refine bodyPost_ret (v := .tuple #[manZ, .bool false]) (by simp [results, Tryz.results163, go_sem, hx1, l1]) rfl ⟨rfl, ?_⟩
      repeat (first | with_reducible exact unhide HB | with_reducible exact Below.refl _ _ | with_reducible refine bdrew ?_ | (with_reducible refine brow ?_ ?_; (focus (first | omega | (simp; done) | (simp; omega)))) | (with_reducible refine bset ?_ ?_; (focus (first | omega | (simp; done) | (simp; omega)))) | (with_reducible refine balloc ?_ ?_; (focus (first | omega | (simp; done) | (simp; omega)))) | (with_reducible refine bvia (unhide HB1) ?_ ?_; (focus (first | omega | (simp; done) | (simp; omega)))) | (with_reducible refine bvia (unhide HB2) ?_ ?_; (focus (first | omega | (simp; done) | (simp; omega)))) | (with_reducible refine bvia (unhide HB3) ?_ ?_; (focus (first | omega | (simp; done) | (simp; omega)))) | (with_reducible refine bvia (unhide HB4) ?_ ?_; (focus (first | omega | (simp; done) | (simp; omega)))) | (with_reducible refine bvia (unhide HB5) ?_ ?_; (focus (first | omega | (simp; done) | (simp; omega)))) | (with_reducible refine bvia (unhide HB6) ?_ ?_; (focus (first | omega | (simp; done) | (simp; omega)))))
/-- is t chunk i of the manifest g? -/
def tellsB (g : Nat → Nat) (i : Int) (t : ByteArray) : Bool :=
  !decide (i < 0 ∨ (M.chunksN (g 4) : Int) ≤ i ∨ t.size ≠ M.chunkLen (g 4) i.toNat ∨ M.crc t.data.toList ≠ M.numAt g (8 + 2 * i.toNat))
def passB (g : Nat → Nat) (s : ByteArray) : Bool := !M.exB g || (decide (evalNum s (M.exQ g) = 0) && decide (evalTxt s (M.exQ g) = M.exA g))
set_option maxRecDepth 10000 in
theorem manPassed_any (g : Nat → Nat) (v : Value) (s : ByteArray) (w : World) (hs : s.size ≤ maxLen) (hq : (M.exQ g).size ≤ maxLen) :
    Calls Tryz.prog 202 #[manOf g v, .string s] w fun e w' => e = .returned (.bool (passB g s)) ∧ Below w.heap.size w w' := by
  have HP : Hid (passB g s = (!M.exB g || (decide (evalNum s (M.exQ g) = 0) && decide (evalTxt s (M.exQ g) = M.exA g)))) := rfl
  have HA := hide (fun W => netAnswer_any s (M.exQ g) W hs hq)
  unfold manOf
  generalize M.exQ g = q at *
  generalize M.exA g = a at *
  generalize M.numAt g 0 = a0 at *
  generalize M.numAt g 2 = a2 at *
  generalize M.numAt g 6 = a6 at *
  generalize g 4 = a4 at *
  generalize g 5 = a5 at *
  cases hx : M.exB g
  · rw [hx] at HP
    go_enter Tryz.func202, Tryz.ntmps202
    go_wp2
    go_ret
    exact ⟨ret_bool HP.out.symm, (Below.refl _ _).alloc (Nat.le_refl _) _⟩
  · rw [hx] at HP
    go_enter Tryz.func202, Tryz.ntmps202
    go_wp2_with fail
    refine (unhide HA _).mono ?_
    rintro e w1 ⟨rfl, hb1⟩
    obtain ⟨k1, hs1, hb⟩ := blk1 hb1
    obtain ⟨hx1, hf1⟩ := block_facts k1
    have HB := hide hb
    clear hb hb1 k1
    generalize evalNum s q = en at *
    generalize evalTxt s q = et at *
    by_cases h0 : en = 0
    · subst h0
      by_cases h1 : et = a
      · subst h1
        go_wp2
        go_ret
        exact ⟨ret_bool (by rw [HP.out]; simp), unhide HB⟩
      · have HN := hide h1
        clear h1
        go_wp2
        go_ret
        exact ⟨ret_bool (by rw [HP.out, decide_eq_false HN.out]; simp; exact fun e => HN.out (text_inj e)), unhide HB⟩
    · go_wp2
      go_ret
      exact ⟨ret_bool (by rw [HP.out]; simp [h0]), unhide HB⟩
theorem tells_true {g : Nat → Nat} {i : Nat} {t : ByteArray} (hi : i < M.chunksN (g 4)) (hl : t.size = M.chunkLen (g 4) i) (hc : M.crc t.data.toList = M.numAt g (8 + 2 * i)) : tellsB g i t = true := by
  unfold tellsB
  rw [Int.toNat_natCast]
  simp [hl, hc]
  omega
theorem tells_false {g : Nat → Nat} {i : Int} {t : ByteArray} (h : i < 0 ∨ (M.chunksN (g 4) : Int) ≤ i ∨ t.size ≠ M.chunkLen (g 4) i.toNat ∨ M.crc t.data.toList ≠ M.numAt g (8 + 2 * i.toNat)) : tellsB g i t = false := by
  unfold tellsB
  rw [decide_eq_true h]
  rfl
set_option maxRecDepth 10000 in
set_option maxHeartbeats 1000000 in
theorem manTells_any (g : Nat → Nat) (ao : Option Addr) (cap : Nat) (i : Int) (t : ByteArray) (w : World) (h1 : 1 ≤ g 4) (h2 : g 4 ≤ 96) (ht : t.size ≤ maxLen) (hrow : HoldsRow w (.slice ao (M.chunksN (g 4)) cap) (M.chunksN (g 4)) (intCells (M.sumsL g (M.chunksN (g 4))))) :
    Calls Tryz.prog 167 #[manOf g (.slice ao (M.chunksN (g 4)) cap), .int .i64 i, .string t] w fun e w' => e = .returned (.bool (tellsB g i t)) ∧ Below w.heap.size w w' := by
  have hc6 : M.chunksN (g 4) ≤ 6 := by unfold M.chunksN; omega
  have hcp : 16 * M.chunksN (g 4) ≤ g 4 + 15 := by unfold M.chunksN; omega
  have HT := hide ht
  unfold manOf
  by_cases h0 : i < 0
  · have HE := hide (tells_false (g := g) (t := t) (.inl h0))
    generalize M.chunksN (g 4) = c at *
    clear hrow
    go_enter Tryz.func167, Tryz.ntmps167
    go_wp2
    go_ret
    exact ⟨ret_bool HE.out.symm, (Below.refl _ _).alloc (Nat.le_refl _) _⟩
  by_cases hc : (M.chunksN (g 4) : Int) ≤ i
  · have HE := hide (tells_false (g := g) (t := t) (.inr (.inl hc)))
    generalize M.chunksN (g 4) = c at *
    clear hrow
    go_enter Tryz.func167, Tryz.ntmps167
    go_wp2
    go_ret
    exact ⟨ret_bool HE.out.symm, (Below.refl _ _).alloc (Nat.le_refl _) _⟩
  obtain ⟨k, rfl⟩ := Int.eq_ofNat_of_zero_le (by omega : 0 ≤ i)
  have hk : k < M.chunksN (g 4) := by omega
  have hle : 16 * k ≤ g 4 := by omega
  by_cases hl : t.size = M.chunkLen (g 4) k
  · have HL := hide hl
    have hneq : ((t.size : Int) != ((M.chunkLen (g 4) k : Nat) : Int)) = false := by rw [hl]; simp
    obtain ⟨ao', cap', hv, _, hcap, hcell⟩ := hrow.shape
    cases hv
    obtain ⟨b, rfl, hb, hcells⟩ := hcell (by omega)
    have hsum : (intCells (M.sumsL g (M.chunksN (g 4))))[k]? = some (.int .i64 (M.numAt g (8 + 2 * k) : Nat)) := by
      rw [intCells_at (by rw [M.sumsL_length]; exact hk), M.sumsL_at g hk]
    have hx := hcells k _ hsum
    have HE : Hid (tellsB g k t = decide (M.crc t.data.toList = M.numAt g (8 + 2 * k))) := by
      show _ = _
      by_cases he : M.crc t.data.toList = M.numAt g (8 + 2 * k)
      · rw [tells_true hk hl he, decide_eq_true he]
      · rw [tells_false (.inr (.inr (.inr (by rw [Int.toNat_natCast]; exact he)))), decide_eq_false he]
    clear hcells hsum hcell hrow hl
    have HSZ := hide (fun W => manSize_any (M.numAt g 0) (M.numAt g 2) (M.numAt g 6) (g 5) (g 4) k (.slice (some ⟨b, 0, none⟩) (M.chunksN (g 4)) cap) (M.exB g) (M.exQ g) (M.exA g) W (by omega) (by omega) hle)
    have HSM := hide (fun W => sumOf_any t W ht)
    generalize M.chunkLen (g 4) k = L at *
    generalize M.crc t.data.toList = C at *
    generalize M.numAt g (8 + 2 * k) = D at *
    generalize hcc : M.chunksN (g 4) = c at *
    have HCC := hide hcc
    clear hcc
    have l1 : b < w.heap.size := (by omega); have n1 : ¬ b = w.heap.size := (by omega)
    go_enter Tryz.func167, Tryz.ntmps167
    go_wp2_with fail
    refine (unhide HSZ _).mono ?_
    rintro e w1 ⟨rfl, hb1⟩
    obtain ⟨k1, hs1, hb2⟩ := blk1 hb1
    obtain ⟨hx1, hf1⟩ := block_facts k1
    have hxb : w1.cell? ⟨b, k, none⟩ = some (.int .i64 D) := (hb2.cell (p := ⟨b, k, none⟩) l1).trans hx
    have hx5 : w1.cell? ⟨w.heap.size, 5, none⟩ = some (.slice (some ⟨b, 0, none⟩) c cap) := hx1 5
    have HB := hide hb2
    clear hb1 hb2 k1 hx HSZ hx1
    go_wp2_with fail
    go_region_held3 (fun X => X.cell? ⟨w.heap.size, 5, none⟩ = some (.slice (some ⟨b, 0, none⟩) c cap) ∧ X.cell? ⟨b, k, none⟩ = some (.int .i64 D)) (go_keep) ((go_at_call 187; refine (unhide HSM _).mono ?_; rintro e w' ⟨rfl, rfl⟩))
    all_goals
      go_wp2
      go_ret
      exact ⟨ret_bool (by rw [HE.out, Bool.eq_iff_iff]; simp; try omega), (unhide HB).drew⟩
  · have HE := hide (tells_false (g := g) (i := (k : Int)) (t := t) (.inr (.inr (.inl (by rw [Int.toNat_natCast]; exact hl)))))
    have hneq : ((t.size : Int) != ((M.chunkLen (g 4) k : Nat) : Int)) = true := by simp; omega
    obtain ⟨ao', cap', hv, _, hcap, hcell⟩ := hrow.shape
    cases hv
    have HSZ := hide (fun W => manSize_any (M.numAt g 0) (M.numAt g 2) (M.numAt g 6) (g 5) (g 4) k (.slice ao (M.chunksN (g 4)) cap) (M.exB g) (M.exQ g) (M.exA g) W (by omega) (by omega) hle)
    clear hcell hrow hl
    generalize M.chunkLen (g 4) k = L at *
    generalize hcc : M.chunksN (g 4) = c at *
    have HCC := hide hcc
    clear hcc
    go_enter Tryz.func167, Tryz.ntmps167
    go_wp2_with fail
    refine (unhide HSZ _).mono ?_
    rintro e w1 ⟨rfl, hb1⟩
    have HB := hide (blk1 hb1).2.2
    clear hb1
    go_wp2
    go_ret
    exact ⟨ret_bool HE.out.symm, unhide HB⟩
end Go.Proofs.YtjfmiomopfjecabGreat

/- New devices, walked. -/
namespace Go.Proofs.YtjfmiomopfjecabGreat
open Go.RowKit Go.Lib

theorem infoDev : (Tryz.prog.info? 105).map (fun i => (i.zero, i.size)) = some (some (.agg (devCells ⟨#[]⟩ (fun _ => 0) false 0 0 0)), 373) := by kernel_rfl
theorem booted_any (w : World) :
    Calls Tryz.prog 70 #[] w fun e w' => e = .returned (.agg #[.int .i64 0, .int .i64 1, .int .i64 0]) ∧ Below w.heap.size w w' := by
  go_enter Tryz.func70, Tryz.ntmps70
  go_wp2
  refine bodyPost_ret (v := .agg #[.int .i64 0, .int .i64 1, .int .i64 0]) (by simp [results, Tryz.results70, go_sem]) rfl ⟨rfl, ?_⟩
  exact (Below.refl _ _).alloc (Nat.le_refl _) _
theorem slotPage_any (i : Nat) (w : World) (hi : i ≤ 1) :
    Calls Tryz.prog 72 #[.int .i64 i] w fun e w' => e = .returned (.int .i64 (11 + 6 * i : Nat)) ∧ w = w' := by
  go_enter Tryz.func72, Tryz.ntmps72
  go_wp2
  go_ret
  exact ⟨ret_int (by omega), rfl⟩
/-- the cells that a new device begins with -/
theorem begin_cells (key : ByteArray) : (((((devCells ⟨#[]⟩ (fun _ => 0) false 0 0 0).setIfInBounds 0 (.string key)).setIfInBounds 369 (.bool true)).setIfInBounds 370 (.int .i64 0)).setIfInBounds 371 (.int .i64 1)).setIfInBounds 372 (.int .i64 0) = devCells key (fun _ => 0) true 0 1 0 := by
  have e0 : (devCells ⟨#[]⟩ (fun _ => 0) false 0 0 0).setIfInBounds 0 (.string key) = devCells key (fun _ => 0) false 0 0 0 := by
    unfold devCells
    rw [List.setIfInBounds_toArray, List.set_cons_zero]
  rw [e0, show (369 : Nat) = 369 + 0 from rfl, devCells_setTail key _ false true 0 0 0 0 0 0 0 (.bool true) rfl, show (370 : Nat) = 369 + 1 from rfl, devCells_setTail key _ true true 0 0 0 0 0 0 1 (.int .i64 0) rfl,
    show (371 : Nat) = 369 + 2 from rfl, devCells_setTail key _ true true 0 0 0 0 1 0 2 (.int .i64 1) rfl, show (372 : Nat) = 369 + 3 from rfl, devCells_setTail key _ true true 0 1 0 0 1 0 3 (.int .i64 0) rfl]
theorem devCells_one (key : ByteArray) (F : Nat → Nat) (on : Bool) (wait next age : Nat) : (devCells key F on wait next age).all (·.oneCell') = true := by
  unfold devCells
  simp [byteC, tailC, Value.oneCell']
def zeroDev : Array Value := devCells ⟨#[]⟩ (fun _ => 0) false 0 0 0
def freshDev (key : ByteArray) : Array Value := devCells key (fun _ => 0) true 0 1 0
theorem zeroDev_size : zeroDev.size = 373 := devCells_size ..
theorem zeroDev_run (w : World) : (zeroValue 105).run Tryz.prog w = .ok (.agg zeroDev) w := (zero_of_info infoDev).1 w
theorem dev_size : (Tryz.prog.info? 105).map (·.size) = some 373 := (zero_of_info infoDev).2
theorem fresh_list (key : ByteArray) : ((((zeroDev.toList.set 0 (.string key)).set 369 (.bool true)).set 370 (.int .i64 0)).set 371 (.int .i64 1)).set 372 (.int .i64 0) = (freshDev key).toList := by
  have e := begin_cells key
  have e2 := congrArg Array.toList e
  simp only [Array.toList_setIfInBounds] at e2
  exact e2
theorem store_begin (w1 : World) (key : ByteArray) :
    (storeCells ⟨w1.heap.size, 0, none⟩ (((((zeroDev.toList.set 0 (.string key)).set 369 (.bool true)).set 370 (.int .i64 0)).set 371 (.int .i64 1)).set 372 (.int .i64 0))).run Tryz.prog (w1.alloc (.cells zeroDev 105)) = .ok () (w1.alloc (.cells (freshDev key) 105)) := by
  rw [fresh_list]
  exact run_storeCells_new (P := Tryz.prog) w1 105 zeroDev (freshDev key) (by rw [dev_size, show (freshDev key).size = 373 from devCells_size ..]) ((devCells_size ..).trans (devCells_size ..).symm) (devCells_one ..)
set_option maxRecDepth 10000 in
set_option maxHeartbeats 1000000 in
theorem written_any (pg num kp ph tr s0 v0 s1 v1 th : Nat) (w : World) (h0 : num < 256) (h1 : kp < 256) (h2 : ph < 256) (h3 : tr < 256) (h4 : s0 < 256) (h5 : s1 < 256) (h6 : v0 ≤ 65535) (h7 : v1 ≤ 65535) (h8 : th < 256) :
    Calls Tryz.prog 75 #[recV pg num kp ph tr s0 v0 s1 v1 th] w fun e w' => e = .returned (.agg #[.int .i64 pg, .string (recP num kp ph tr s0 v0 s1 v1 th)]) ∧ Below w.heap.size w w' := by
  have HT := hide (fun W => recText_any pg num kp ph tr s0 v0 s1 v1 th W h0 h1 h2 h3 h4 h5 h6 h7 h8)
  generalize recP num kp ph tr s0 v0 s1 v1 th = T at *
  go_enter Tryz.func75, Tryz.ntmps75
  go_wp2_with fail
  go_region_held3 (fun X => X.cell? ⟨w.heap.size, 0, none⟩ = some (.int .i64 pg) ∧ X.cell? ⟨w.heap.size, 1, none⟩ = some (.int .i64 num) ∧ X.cell? ⟨w.heap.size, 2, none⟩ = some (.int .i64 kp) ∧ X.cell? ⟨w.heap.size, 3, none⟩ = some (.int .i64 ph) ∧ X.cell? ⟨w.heap.size, 4, none⟩ = some (.int .i64 tr) ∧ X.cell? ⟨w.heap.size, 5, none⟩ = some (.int .i64 s0) ∧ X.cell? ⟨w.heap.size, 6, none⟩ = some (.int .i64 v0) ∧ X.cell? ⟨w.heap.size, 7, none⟩ = some (.int .i64 s1) ∧ X.cell? ⟨w.heap.size, 8, none⟩ = some (.int .i64 v1) ∧ X.cell? ⟨w.heap.size, 9, none⟩ = some (.int .i64 th)) (first | go_keep | (simp only [hyN, hzN]; simp; done)) ((go_at_call 105; refine (unhide HT _).mono ?_; rintro e wN ⟨rfl, hbN⟩; obtain ⟨hzN, hfN⟩ := block_facts ((hbN.block (w.heap.size + 1) (by simp)).trans (last_block _ _ (by simp))); obtain ⟨hyN, hfyN⟩ := block_facts ((hbN.block w.heap.size (by simp; omega)).trans (first_block _ _ _))))
  have HB : Hid (Below w.heap.size w wN) := two_alloc ((Below.drew (Below.refl _ _)).trans (hbN.mono (by simp)))
  clear hbN hfN hfyN hyN
  go_wp2
  refine bodyPost_ret (v := .agg #[.int .i64 pg, .string T]) (by simp [results, Tryz.results75, go_sem, hzN]) rfl ⟨rfl, ?_⟩
  exact ((unhide HB).setCell (by simp) _).setCell (by simp) _
/- whole rows that are read and written -/
theorem load_row {W : World} {g : Nat} {c : Array Value} {t : TypeId} {fr : Nat × Nat} (hg : W.heap[g]? = some (.cells c t fr)) {n : Nat} (hn : c.size = n) : (loadCellsFrom ⟨g, 0, none⟩ 0 n #[]).run Tryz.prog W = .ok c W := by
  subst hn
  have := run_loadCells_list (P := Tryz.prog) W ⟨g, 0, none⟩ c.toList (fun j v hv => by
    rw [add_at, cell_in hg]
    simpa using hv)
  simpa [loadCells] using this
theorem store_row {W : World} {g : Nat} {old c : Array Value} {t ty : TypeId} (hg : W.heap[g]? = some (.cells old t (0, 0))) (hi : (Tryz.prog.info? ty).map (·.size) = some c.size) (ho : old.size = c.size) (h1 : c.all (·.oneCell') = true) :
    (storeCells ⟨g, 0, none⟩ c.toList).run Tryz.prog W = .ok () (W.setRow g c) := by
  have := run_storeVar_row (P := Tryz.prog) W g t ty old c hg hi ho h1
  cases hq : Tryz.prog.info? ty with
  | none => simp [hq] at hi
  | some i =>
    have hs : c.size = i.size := by simp [hq] at hi; omega
    simpa [storeVar, sizeOf, typeInfo, hq, Value.cells, hs] using this
theorem setRow_below {w W : World} {B g : Nat} (h : Below B w W) (hg : B ≤ g) (c : Array Value) : Below B w (W.setRow g c) := by
  refine ⟨h.os, h.tape, h.output, ?_, fun k hk => ?_⟩
  · refine Nat.le_trans h.size ?_
    unfold World.setRow
    simp
  · unfold World.setRow
    rw [Array.getElem?_modify, if_neg (by omega)]
    exact h.block k hk
def newG (image : ByteArray) (version : Nat) : List GW := spreadG 11 (M.chunksN image.size) image ++ [(0, recP 1 0 0 0 image.size version 0 0 0)]
theorem spread_put (first n : Nat) (s : ByteArray) (F : Nat → Nat) (j : Nat) : M.puts F (gwsOf (spreadG first n s)) j = if 16 * first ≤ j ∧ j < 16 * first + 16 * n then M.bz s (j - 16 * first) else F j := by
  induction n generalizing j with
  | zero =>
    rw [if_neg (by omega)]
    rfl
  | succ n ih =>
    rw [spreadG_succ]
    unfold gwsOf at *
    rw [List.map_append, M.puts_append]
    show M.put (M.puts F (List.map gwOf (spreadG first n s))) (first + n) (M.bz (M.mk 16 fun j => M.bz s (16 * n + j))) 16 j = _
    by_cases h : 16 * (first + n) ≤ j ∧ j < 16 * (first + n) + 16
    · obtain ⟨i, rfl⟩ : ∃ i, j = 16 * (first + n) + i := ⟨j - 16 * (first + n), by omega⟩
      rw [M.put_in (by omega), if_pos ⟨by omega, by omega⟩, M.bz_mk (fun _ _ => M.bz_lt _ _) (by omega), show 16 * (first + n) + i - 16 * first = 16 * n + i from by omega]
    · rw [M.put_out (by omega), ih]
      by_cases h2 : 16 * first ≤ j ∧ j < 16 * first + 16 * n
      · rw [if_pos h2, if_pos ⟨by omega, by omega⟩]
      · rw [if_neg h2, if_neg (by omega)]
theorem new_puts {image : ByteArray} {version : Nat} (hs : image.size ≤ 80) (hv : version ≤ 65535) : M.puts (fun _ => 0) (gwsOf (newG image version)) = M.newF image version := by
  funext j
  unfold newG
  have e : gwsOf (spreadG 11 (M.chunksN image.size) image ++ [(0, recP 1 0 0 0 image.size version 0 0 0)]) = gwsOf (spreadG 11 (M.chunksN image.size) image) ++ [(0, M.bz (recP 1 0 0 0 image.size version 0 0 0))] := by simp [gwsOf, gwOf]
  rw [e, M.puts_append]
  show M.put (M.puts (fun _ => 0) (gwsOf (spreadG 11 (M.chunksN image.size) image))) 0 (M.bz (recP 1 0 0 0 image.size version 0 0 0)) 16 j = _
  by_cases h : j < 16
  · have e2 := M.put_in (F := M.puts (fun _ => 0) (gwsOf (spreadG 11 (M.chunksN image.size) image))) (p := 0) (s := M.bz (recP 1 0 0 0 image.size version 0 0 0)) (t := 16) h
    rw [Nat.mul_zero, Nat.zero_add] at e2
    rw [e2]
    unfold recP
    rw [M.bz_mk (fun i hi => M.recB_bytes (by omega) (by omega) (by omega) (by omega) (by omega) (by omega) (by omega) (by omega) (by omega) (by omega) (by omega) 0 i hi) h]
    have hc : j = 0 ∨ j = 1 ∨ j = 2 ∨ j = 3 ∨ j = 4 ∨ j = 5 ∨ j = 6 ∨ j = 7 ∨ j = 8 ∨ j = 9 ∨ j = 10 ∨ j = 11 ∨ j = 12 ∨ j = 13 ∨ j = 14 ∨ j = 15 := by omega
    unfold M.newF M.recB
    rcases hc with rfl | rfl | rfl | rfl | rfl | rfl | rfl | rfl | rfl | rfl | rfl | rfl | rfl | rfl | rfl | rfl
    all_goals simp
  · have e3 : M.newF image version j = if 176 ≤ j ∧ j < 176 + image.size then M.bz image (j - 176) else 0 := by
      unfold M.newF
      rw [if_neg (by omega), if_neg (by omega), if_neg (by omega), if_neg (by omega), if_neg (by omega)]
    rw [M.put_out (by omega), spread_put, e3]
    by_cases h2 : 176 ≤ j ∧ j < 176 + image.size
    · rw [if_pos h2, if_pos ⟨by omega, by unfold M.chunksN; omega⟩]
    · rw [if_neg h2]
      by_cases h3 : 16 * 11 ≤ j ∧ j < 16 * 11 + 16 * M.chunksN image.size
      · rw [if_pos h3, M.bz_out _ _ (by omega)]
      · rw [if_neg h3]
theorem newG_length (image : ByteArray) (version : Nat) : (newG image version).length = M.chunksN image.size + 1 := by
  unfold newG
  rw [List.length_append, spreadG_length]
  rfl
theorem newG_in {image : ByteArray} {version : Nat} (hs : image.size ≤ 80) {a : GW} (h : a ∈ newG image version) : a.1 < 23 ∧ a.2.size ≤ maxLen := by
  unfold newG spreadG at h
  simp only [List.mem_append, List.mem_map, List.mem_range, List.mem_cons, List.not_mem_nil, or_false] at h
  rcases h with ⟨i, hi, rfl⟩ | rfl
  · unfold M.chunksN at hi
    exact ⟨by show 11 + i < 23; omega, by show (M.mk 16 _).size ≤ maxLen; rw [M.mk_size]; unfold maxLen; omega⟩
  · exact ⟨by show 0 < 23; omega, by show (recP ..).size ≤ maxLen; unfold recP; rw [M.mk_size]; unfold maxLen; omega⟩
set_option maxRecDepth 10000 in
set_option maxHeartbeats 1000000 in
theorem deviceNew_any (key image : ByteArray) (version : Nat) (w : World) (hi : M.isImage image = true) (hv : version ≤ 65535) :
    Calls Tryz.prog 56 #[.string key, .string image, .int .i64 version] w fun e w' => e = .returned (.agg (devCells key (M.newF image version) true 0 1 0)) ∧ Below w.heap.size w w' := by
  have hzero := zeroDev_run
  have hZs := zeroDev_size
  have hZn : ¬ zeroDev = #[] := fun e => by rw [e] at hZs; exact absurd hZs (by decide)
  have HST := hide (fun w1 => store_begin w1 key)
  have HFR := hide (show freshDev key = devCells key (fun _ => 0) true 0 1 0 from rfl)
  have himg := M.image_size hi
  have HCN : Hid (M.chunksN image.size ≤ 5) := by show _ ≤ _; unfold M.chunksN; omega
  generalize freshDev key = Y at *
  generalize zeroDev = Z at *
  go_enter Tryz.func56, Tryz.ntmps56
  go_wp2_with fail
  refine (booted_any _).mono ?_
  rintro e w1 ⟨rfl, hb⟩
  have HB1 := hide hb
  have hs1 := hb.size
  simp only [World.size_alloc] at hs1
  clear hb
  have hst := unhide HST w1
  go_wp2_with fail
  clear hst HST
  refine (slotPage_any 0 _ (by omega)).mono ?_
  rintro e w' ⟨rfl, rfl⟩
  go_wp2_with fail
  refine (needed_any image.size _ (by omega)).mono ?_
  rintro e w' ⟨rfl, rfl⟩
  go_wp2_with fail
  refine (spread_any 11 (M.chunksN image.size) image _ (by unfold maxLen; omega) (by omega) (by have := HCN.out; omega)).mono ?_
  rintro e w2 ⟨vl, rfl, hown, hb2⟩
  have hs2 := hb2.size
  simp only [World.size_alloc] at hs2 hb2 hown
  have HB2 : Hid (Below (w1.heap.size + 1) (w1.alloc (.cells Y 105)) w2) := hb2
  have HO2 := hide hown
  clear hown hb2
  go_wp2_with fail
  refine (recFirst_any image.size version _).mono ?_
  rintro e w3 ⟨rfl, hb3⟩
  have hs3 := hb3.size
  have HB3 : Hid (Below (w1.heap.size + 1) (w1.alloc (.cells Y 105)) w3) := (unhide HB2).trans (hb3.mono hs2)
  have HO3 := hide (ownsRow_below (unhide HO2) hb3)
  clear hb3
  go_wp2_with fail
  refine (written_any 0 1 0 0 0 image.size version 0 0 0 _ (by omega) (by omega) (by omega) (by omega) (by omega) (by omega) hv (by omega) (by omega)).mono ?_
  rintro e w4 ⟨rfl, hb4⟩
  generalize hT : recP 1 0 0 0 image.size version 0 0 0 = T at *
  have HT := hide hT
  clear hT
  have hs4 := hb4.size
  simp only [World.size_alloc] at hs4
  have HB4 : Hid (Below (w1.heap.size + 1) (w1.alloc (.cells Y 105)) w4) := ((unhide HB3).alloc (by omega) _).trans (hb4.mono (by simp; omega))
  have HO4 := hide (ownsRow_below ((unhide HO3).alloc _) hb4)
  clear hb4
  go_wp2_with (at_builtin; (refine append_write _ rfl (.tmp 24) (.tmp 27) rfl (w1.heap.size + 1) vl (spreadG 11 (M.chunksN image.size) image) _ (0, T) rfl rfl rfl (by rw [spreadG_length]; exact unhide HO4) (by rw [spreadG_length]; have := HCN.out; omega) (by omega) ?_); intro vm w5 hown5 hbel5 hsz5)
  have HO5 : Hid (w5.ownsRow (w1.heap.size + 1) 136 2 vm (newG image version).length (gwCells (newG image version))) := by unfold newG; rw [HT.out]; exact hown5
  have HB5 := hide (hbel5 _ (unhide HB4))
  have HD5 : Hid (DevAt w5 w1.heap.size 105 key (fun _ => 0) true 0 1 0) := by
    have := (unhide HB5).block w1.heap.size (by omega)
    rw [last_block _ _ rfl, HFR.out] at this
    exact this
  have HNB : Hid (vm.ownBlock ≠ some w1.heap.size) := fun e => by have := ((unhide HO5).lt _ e).1; omega
  have HZ5 : Hid (w5.heap[w.heap.size]? = some (.cells Z 105)) := by
    show _ = _
    rw [(unhide HB5).block w.heap.size (by omega), Below.heap_alloc _ _ _ (by omega), (unhide HB1).block w.heap.size (by simp)]
    exact last_block _ _ rfl
  have hs5 : w1.heap.size + 1 ≤ w5.heap.size := by omega
  clear hown5 hbel5
  refine (writeAll_any (unhide HD5) vm (newG image version) (-1) 0 (holdsRow_own (unhide HO5)) (unhide HNB) (by rw [newG_length]; have := HCN.out; omega) (fun a ha => newG_in himg.1 ha)).mono ?_
  rintro e w6 ⟨rfl, hd6, ho6⟩
  have hwr : writtenF (fun _ => 0) (newG image version) (-1) 0 = M.newF image version := by
    unfold writtenF
    rw [if_neg (by omega)]
    exact new_puts himg.1 hv
  rw [hwr] at hd6
  clear hwr
  have hz6 : w6.heap[w.heap.size]? = some (.cells Z 105) := (ho6.block _ (by omega) (by omega)).trans (unhide HZ5)
  have HB6 : Hid (Below w.heap.size w w6) := by
    have b1 : Below w.heap.size w w1 := one_alloc ((unhide HB1).mono (by simp))
    have b5 : Below w.heap.size w w5 := (b1.alloc (by omega) _).trans ((unhide HB5).mono (by omega))
    exact b5.trans (ho6.below (by omega) (fun k hk => by omega))
  have HCs := hide (devCells_size key (M.newF image version) true 0 1 0)
  have HC1 := hide (devCells_one key (M.newF image version) true 0 1 0)
  have HCB : Hid (w6.heap[w1.heap.size]? = some (.cells (devCells key (M.newF image version) true 0 1 0) 105 (0, 0))) := hd6
  generalize hC : devCells key (M.newF image version) true 0 1 0 = C at *
  have HC := hide hC
  have hsr := store_row (ty := 105) hz6 (by rw [dev_size, HCs.out]) (by rw [HCs.out]; exact hZs) HC1.out
  have HZ7 : Hid ((w6.setRow w.heap.size C).heap[w.heap.size]? = some (.cells C 105 (0, 0))) := setRow_heap w6 w.heap.size Z C _ _ hz6
  have HB7 := hide (setRow_below (unhide HB6) (Nat.le_refl _) C)
  have hCs := HCs.out
  clear hC hd6 ho6 hz6
  generalize w6.setRow w.heap.size C = w7 at *
  go_wp2_with fail
  refine wp_load_row 105 (.tmp 7) rfl w1.heap.size rfl _ C (0, 0) _ (unhide HCB) Tryz.underlying105 rfl (by rw [dev_size, hCs]) ?_
  go_wp2
  refine bodyPost_ret (v := .agg C) (results_cell_row Tryz.results56 _ _ w.heap.size _ C (0, 0) _ rfl (unhide HZ7) Tryz.underlying105 rfl (by rw [dev_size, hCs])) rfl ⟨by rw [← HC.out], unhide HB7⟩
end Go.Proofs.YtjfmiomopfjecabGreat

/- slots.New. -/
namespace Go.Proofs.YtjfmiomopfjecabGreat
open Go.RowKit Go.Lib

theorem infoSDev : (Tryz.prog.info? 108).map (fun i => (i.zero, i.size)) = some (some (.agg (devCells ⟨#[]⟩ (fun _ => 0) false 0 0 0)), 373) := by kernel_rfl
theorem zeroSDev_run (w : World) : (zeroValue 108).run Tryz.prog w = .ok (.agg zeroDev) w := (zero_of_info infoSDev).1 w
theorem fill_list (l : List Value) : ∀ (k : Nat) (Z : Array Value), Z.size = k + l.length → ∀ i, ((l.zipIdx k).foldl (fun cs x => cs.setIfInBounds x.snd x.fst) Z)[i]? = if k ≤ i then l[i - k]? else Z[i]? := by
  induction l with
  | nil =>
    intro k Z h i
    simp only [List.zipIdx_nil, List.foldl_nil]
    by_cases hk : k ≤ i
    · rw [if_pos hk, Array.getElem?_eq_none (by rw [h]; simp; omega)]
      simp
    · rw [if_neg hk]
  | cons a l ih =>
    intro k Z h i
    rw [List.zipIdx_cons, List.foldl_cons, ih (k + 1) _ (by simp at h ⊢; omega)]
    by_cases hk : k + 1 ≤ i
    · rw [if_pos hk, if_pos (by omega), show i - k = (i - (k + 1)) + 1 from by omega, List.getElem?_cons_succ]
    · rw [if_neg hk, Array.getElem?_setIfInBounds]
      by_cases he : k = i
      · subst he
        simp at h
        rw [if_pos rfl, if_pos (by omega), if_pos (Nat.le_refl _)]
        simp
      · rw [if_neg he, if_neg (by omega)]
theorem fill_all {C Z : Array Value} (hC : C.size = 373) (hZ : Z.size = 373) : Array.foldl (fun cs x => cs.setIfInBounds x.snd x.fst) Z C.zipIdx 0 373 = C := by
  have e : Array.foldl (fun (cs : Array Value) (x : Value × Nat) => cs.setIfInBounds x.snd x.fst) Z C.zipIdx 0 373 = (C.toList.zipIdx 0).foldl (fun cs x => cs.setIfInBounds x.snd x.fst) Z := by
    have h1 : C.zipIdx.size = 373 := by simpa using hC
    rw [← h1, ← Array.foldl_toList]
    simp
  rw [e]
  apply Array.ext_getElem?
  intro i
  rw [fill_list C.toList 0 Z (by simp; omega), if_pos (Nat.zero_le _)]
  simp
/-- why there is no new device: 0 if there is one -/
def newNum (key image : ByteArray) (version : Int) : Int := if 16 < key.size then 5 else if M.isImage image = false then 1 else if version < 0 ∨ 65535 < version then 6 else 0
theorem slotsNew_ok (key image : ByteArray) (version : Nat) (w : World) (hk : key.size ≤ 16) (hi : M.isImage image = true) (hv : version ≤ 65535) :
    Calls Tryz.prog 33 #[.string key, .string image, .int .i64 version] w fun e w' => ∃ b, e = .returned (.tuple #[.pointer (some ⟨b, 0, none⟩), .int .i64 0]) ∧ w.heap.size ≤ b ∧ DevAt w' b 108 key (M.newF image version) true 0 1 0 ∧ Below w.heap.size w w' := by
  have himg := M.image_size hi
  have HI : Hid (checkNum image = 0) := by show _ = _; unfold checkNum; rw [hi]; rfl
  have HH := hide hi
  have hzero := zeroSDev_run
  have hZs := zeroDev_size
  have hZn : ¬ zeroDev = #[] := fun e => by rw [e] at hZs; exact absurd hZs (by decide)
  have hCs := devCells_size key (M.newF image version) true 0 1 0
  have HN := hide (fun W => deviceNew_any key image version W hi hv)
  have hk1 : ¬ (16 : Int) < (key.size : Int) := by omega
  clear hi
  generalize hC : devCells key (M.newF image version) true 0 1 0 = C at *
  have HC := hide hC
  clear hC
  generalize zeroDev = Z at *
  go_enter Tryz.func33, Tryz.ntmps33
  go_wp2_with fail
  refine (netCheck_any image _ (by unfold maxLen; omega)).mono ?_
  rintro e w1 ⟨rfl, hb1⟩
  rw [HI.out]
  go_wp2_with fail
  refine (unhide HN _).mono ?_
  rintro e w2 ⟨rfl, hb2⟩
  have HB2 : Hid (Below w.heap.size w w2) := hb1.trans (hb2.mono hb1.size)
  clear hb1 hb2
  have hfl := fill_all hCs hZs
  go_wp2
  have hD : DevAt (w2.alloc (.cells C 108)) w2.heap.size 108 key (M.newF image version) true 0 1 0 := by
    unfold DevAt
    rw [HC.out]
    exact last_block _ _ rfl
  go_ret2
  exact ⟨w2.heap.size, rfl, (unhide HB2).size, hD, (unhide HB2).alloc (unhide HB2).size _⟩
theorem ret_nil {n m : Int} (h : n = m) : Ending.returned (.tuple #[.pointer none, .int .i64 n]) = .returned (.tuple #[.pointer none, .int .i64 m]) := by rw [h]
theorem slotsNew_no (key image : ByteArray) (version : Int) (w : World) (his : image.size ≤ maxLen) (h : newNum key image version ≠ 0) :
    Calls Tryz.prog 33 #[.string key, .string image, .int .i64 version] w fun e w' => e = .returned (.tuple #[.pointer none, .int .i64 (newNum key image version)]) ∧ Below w.heap.size w w' := by
  unfold newNum at h
  by_cases hk : 16 < key.size
  · have HE : Hid (newNum key image version = 5) := if_pos hk
    have hk1 : (16 : Int) < (key.size : Int) := by omega
    go_enter Tryz.func33, Tryz.ntmps33
    go_wp2
    go_ret2
    exact ⟨ret_nil HE.out.symm, Below.refl _ _⟩
  · rw [if_neg hk] at h
    have hk1 : ¬ (16 : Int) < (key.size : Int) := by omega
    cases hi : M.isImage image
    · have HE : Hid (newNum key image version = 1) := by show _ = _; unfold newNum; rw [if_neg hk, hi, if_pos rfl]
      have HI : Hid (checkNum image = 1) := by show _ = _; unfold checkNum; rw [hi]; rfl
      go_enter Tryz.func33, Tryz.ntmps33
      go_wp2_with fail
      refine (netCheck_any image _ his).mono ?_
      rintro e w1 ⟨rfl, hb1⟩
      rw [HI.out]
      go_wp2
      go_ret2
      exact ⟨ret_nil HE.out.symm, hb1⟩
    · rw [hi, if_neg (by simp)] at h
      have hv : version < 0 ∨ 65535 < version := by
        by_cases hv : version < 0 ∨ 65535 < version
        · exact hv
        · rw [if_neg hv] at h; exact absurd rfl h
      have HE : Hid (newNum key image version = 6) := by show _ = _; unfold newNum; rw [if_neg hk, hi, if_neg (by simp), if_pos hv]
      have HI : Hid (checkNum image = 0) := by show _ = _; unfold checkNum; rw [hi]; rfl
      clear h
      rcases hv with hv | hv
      · go_enter Tryz.func33, Tryz.ntmps33
        go_wp2_with fail
        refine (netCheck_any image _ his).mono ?_
        rintro e w1 ⟨rfl, hb1⟩
        rw [HI.out]
        go_wp2
        go_ret2
        exact ⟨ret_nil HE.out.symm, hb1⟩
      · have hv0 : ¬ version < 0 := by omega
        go_enter Tryz.func33, Tryz.ntmps33
        go_wp2_with fail
        refine (netCheck_any image _ his).mono ?_
        rintro e w1 ⟨rfl, hb1⟩
        rw [HI.out]
        go_wp2
        go_ret2
        exact ⟨ret_nil HE.out.symm, hb1⟩
end Go.Proofs.YtjfmiomopfjecabGreat

/- What an event comes to, in memory: the pages that it writes, the answer, what the device is like. -/
namespace Go.Proofs.YtjfmiomopfjecabGreat
open Go.RowKit Go.Lib

/-- the record in the flash, as it lies in memory -/
abbrev recF (F : Nat → Nat) : Value := recV (M.recAt F) (M.fld F 0) (M.fld F 1) (M.fld F 2) (M.fld F 3) (M.fld F 4) (M.verOf F 0) (M.fld F 5) (M.verOf F 1) (M.fld F 10)
abbrev outC (v : Value) (on : Bool) (wait next age err : Int) (text : ByteArray) (ask : Int) : Array Value := #[v, .bool on, .int .i64 wait, .int .i64 next, .int .i64 age, .int .i64 err, .string text, .int .i64 ask]
abbrev outV (v : Value) (on : Bool) (wait next age err : Int) (text : ByteArray) (ask : Int) : Value := .agg #[v, .bool on, .int .i64 wait, .int .i64 next, .int .i64 age, .int .i64 err, .string text, .int .i64 ask]
theorem lblk {W : World} {o : Obj} {n : Nat} (h : n = W.heap.size) : (W.alloc o).heap[n]? = some o := last_block _ _ h
theorem ablk {X : World} {g : Nat} {o o2 : Obj} (hX : X.heap[g]? = some o) : (X.alloc o2).heap[g]? = some o := alloc_block hX o2
theorem sblk {X : World} {g h o : Nat} {u : Value} {b : Obj} (hne : ¬ g = h) (hX : X.heap[g]? = some b) : (X.setCell ⟨h, o, none⟩ u).heap[g]? = some b := set_block hX hne
section
variable {w : World} {b : Nat} {t : TypeId} {key : ByteArray} {F : Nat → Nat} {on : Bool} {wait next age : Nat}
set_option maxRecDepth 10000 in
theorem devStill_any (h : DevAt w b t key F on wait next age) :
    Calls Tryz.prog 160 #[.pointer (some ⟨b, 0, none⟩)] w fun e w' => e = .returned (outV (.slice none 0 0) on wait next age 0 ⟨#[]⟩ (-1)) ∧ Below w.heap.size w w' := by
  have hlt := h.lt
  have hne : ¬ b = w.heap.size := by omega
  have c1 := h.onC
  have c2 := h.waitC
  have c3 := h.nextC
  have c4 := h.ageC
  clear h
  go_enter Tryz.func160, Tryz.ntmps160
  go_wp2_with fail
  go_region
  go_wp2
  refine bodyPost_ret (v := outV (.slice none 0 0) on wait next age 0 ⟨#[]⟩ (-1)) (by simp [results, Tryz.results160, go_sem]) rfl ⟨rfl, ?_⟩
  repeat (first | with_reducible exact unhide HB | with_reducible exact Below.refl _ _ | with_reducible refine bdrew ?_ | (with_reducible refine brow ?_ ?_; (focus (first | omega | (simp; done) | (simp; omega)))) | (with_reducible refine bset ?_ ?_; (focus (first | omega | (simp; done) | (simp; omega)))) | (with_reducible refine balloc ?_ ?_; (focus (first | omega | (simp; done) | (simp; omega)))) | (with_reducible refine bvia (unhide HB1) ?_ ?_; (focus (first | omega | (simp; done) | (simp; omega)))) | (with_reducible refine bvia (unhide HB2) ?_ ?_; (focus (first | omega | (simp; done) | (simp; omega)))) | (with_reducible refine bvia (unhide HB3) ?_ ?_; (focus (first | omega | (simp; done) | (simp; omega)))) | (with_reducible refine bvia (unhide HB4) ?_ ?_; (focus (first | omega | (simp; done) | (simp; omega)))) | (with_reducible refine bvia (unhide HB5) ?_ ?_; (focus (first | omega | (simp; done) | (simp; omega)))) | (with_reducible refine bvia (unhide HB6) ?_ ?_; (focus (first | omega | (simp; done) | (simp; omega)))))
theorem DevAt.alloc (h : DevAt w b t key F on wait next age) (o : Obj) : DevAt (w.alloc o) b t key F on wait next age := alloc_block h o
theorem DevAt.kept {w' : World} (h : DevAt w b t key F on wait next age) (hb : Below w.heap.size w w') : DevAt w' b t key F on wait next age := kept_block hb h
set_option maxRecDepth 10000 in
theorem devFault_any (h : DevAt w b t key F on wait next age) (err : Int) :
    Calls Tryz.prog 162 #[.pointer (some ⟨b, 0, none⟩), .int .i64 err] w fun e w' => e = .returned (outV (.slice none 0 0) on wait next age err ⟨#[]⟩ (-1)) ∧ Below w.heap.size w w' := by
  have HD := hide h
  clear h
  go_enter Tryz.func162, Tryz.ntmps162
  go_wp2_with fail
  refine (devStill_any ((unhide HD).alloc _)).mono ?_
  rintro e w1 ⟨rfl, hb1⟩
  obtain ⟨k1, hs1, hb⟩ := blk1 hb1
  obtain ⟨hx1, hf1⟩ := block_facts k1
  have HB := hide hb
  clear hb hb1 k1
  have l1 : w.heap.size < w1.heap.size := (by omega); have n1 : ¬ w.heap.size = w1.heap.size := (by omega)
  go_wp2
  refine bodyPost_ret (v := outV (.slice none 0 0) on wait next age err ⟨#[]⟩ (-1)) (by simp [results, Tryz.results162, go_sem, hx1, l1]) rfl ⟨rfl, ?_⟩
  repeat (first | with_reducible exact unhide HB | with_reducible exact Below.refl _ _ | with_reducible refine bdrew ?_ | (with_reducible refine brow ?_ ?_; (focus (first | omega | (simp; done) | (simp; omega)))) | (with_reducible refine bset ?_ ?_; (focus (first | omega | (simp; done) | (simp; omega)))) | (with_reducible refine balloc ?_ ?_; (focus (first | omega | (simp; done) | (simp; omega)))) | (with_reducible refine bvia (unhide HB1) ?_ ?_; (focus (first | omega | (simp; done) | (simp; omega)))) | (with_reducible refine bvia (unhide HB2) ?_ ?_; (focus (first | omega | (simp; done) | (simp; omega)))) | (with_reducible refine bvia (unhide HB3) ?_ ?_; (focus (first | omega | (simp; done) | (simp; omega)))) | (with_reducible refine bvia (unhide HB4) ?_ ?_; (focus (first | omega | (simp; done) | (simp; omega)))) | (with_reducible refine bvia (unhide HB5) ?_ ?_; (focus (first | omega | (simp; done) | (simp; omega)))) | (with_reducible refine bvia (unhide HB6) ?_ ?_; (focus (first | omega | (simp; done) | (simp; omega)))))
/-- a row of one page that is to be written -/
theorem own_one {W : World} {base g : Nat} {y : GW} (hg : W.heap[g]? = some (.cells #[.int .i64 (y.1 : Int), .string y.2] 136 (0, 0))) (hb : base ≤ g) : W.ownsRow base 136 2 (.slice (some ⟨g, 0, none⟩) 1 1) 1 (gwCells [y]) :=
  ⟨rfl, .inr ⟨g, 1, _, rfl, hb, hg, Nat.le_refl _, by unfold maxLen; omega, rfl, rfl⟩⟩
set_option maxRecDepth 10000 in
set_option maxHeartbeats 400000 in
theorem devRecorded_any (h : DevAt w b t key F on wait next age) (pg num kp ph tr s0 v0 s1 v1 th : Nat) (h0 : num < 256) (h1 : kp < 256) (h2 : ph < 256) (h3 : tr < 256) (h4 : s0 < 256) (h5 : s1 < 256) (h6 : v0 ≤ 65535) (h7 : v1 ≤ 65535) (h8 : th < 256) :
    Calls Tryz.prog 169 #[.pointer (some ⟨b, 0, none⟩), recV pg num kp ph tr s0 v0 s1 v1 th] w fun e w' => ∃ g, e = .returned (outV (.slice (some ⟨g, 0, none⟩) 1 1) on wait next age 0 ⟨#[]⟩ (-1)) ∧ w'.ownsRow w.heap.size 136 2 (.slice (some ⟨g, 0, none⟩) 1 1) 1 (gwCells [(pg, recP num kp ph tr s0 v0 s1 v1 th)]) ∧ Below w.heap.size w w' := by
  have HD := hide h
  have HW := hide (fun W => written_any pg num kp ph tr s0 v0 s1 v1 th W h0 h1 h2 h3 h4 h5 h6 h7 h8)
  clear h
  go_enter Tryz.func169, Tryz.ntmps169
  go_wp2_with fail
  refine (devStill_any (((unhide HD).alloc _).alloc _)).mono ?_
  rintro e w1 ⟨rfl, hb1⟩
  obtain ⟨k1, k2, hs1, hb⟩ := blk2 hb1
  obtain ⟨hx1, hf1⟩ := block_facts k1
  have K2 := hide k2
  have HB := hide hb
  clear hb hb1 k1 k2
  have l1 : w.heap.size < w1.heap.size := (by omega); have n1 : ¬ w.heap.size = w1.heap.size := (by omega)
  have l2 : w.heap.size + 1 < w1.heap.size := (by omega); have n2 : ¬ w.heap.size + 1 = w1.heap.size := (by omega)
  go_wp2_with fail
  refine (unhide HW _).mono ?_
  rintro e w2 ⟨rfl, hb2⟩
  clear hx1 hf1
  generalize hT : recP num kp ph tr s0 v0 s1 v1 th = T at *
  have HT := hide hT
  clear hT
  obtain ⟨hx2, hf2⟩ := block_facts (kept_block hb2 (alloc_block (unhide K2) _))
  obtain ⟨k3, hs2, hb⟩ := blk1 hb2
  obtain ⟨hx3, hf3⟩ := block_facts k3
  have HB2 := hide hb
  clear hb hb2 k3 K2
  have l3 : w1.heap.size < w2.heap.size := (by omega); have n3 : ¬ w1.heap.size = w2.heap.size := (by omega)
  have l4 : w.heap.size + 1 < w2.heap.size := (by omega); have n4 : ¬ w.heap.size + 1 = w2.heap.size := (by omega)
  go_wp2
  refine bodyPost_ret (v := outV (.slice (some ⟨w2.heap.size, 0, none⟩) 1 1) on wait next age 0 ⟨#[]⟩ (-1)) (by simp [results, Tryz.results169, go_sem, hx2, l4]) rfl ⟨w2.heap.size, rfl, ?_, ?_⟩
  · rw [HT.out]
    refine own_one (y := (pg, T)) ?_ (by omega)
    repeat (first | with_reducible exact unhide HB | (with_reducible refine lblk ?_; (focus (first | rfl | (simp; done)))) | with_reducible refine ablk ?_ | with_reducible refine drew_block ?_ | (with_reducible refine sblk ?_ ?_; (focus (first | omega | (simp; done) | (simp; omega)))))
  · repeat (first | with_reducible exact unhide HB | with_reducible exact Below.refl _ _ | with_reducible refine bdrew ?_ | (with_reducible refine brow ?_ ?_; (focus (first | omega | (simp; done) | (simp; omega)))) | (with_reducible refine bset ?_ ?_; (focus (first | omega | (simp; done) | (simp; omega)))) | (with_reducible refine balloc ?_ ?_; (focus (first | omega | (simp; done) | (simp; omega)))) | (with_reducible refine bvia (unhide HB1) ?_ ?_; (focus (first | omega | (simp; done) | (simp; omega)))) | (with_reducible refine bvia (unhide HB2) ?_ ?_; (focus (first | omega | (simp; done) | (simp; omega)))) | (with_reducible refine bvia (unhide HB3) ?_ ?_; (focus (first | omega | (simp; done) | (simp; omega)))) | (with_reducible refine bvia (unhide HB4) ?_ ?_; (focus (first | omega | (simp; done) | (simp; omega)))) | (with_reducible refine bvia (unhide HB5) ?_ ?_; (focus (first | omega | (simp; done) | (simp; omega)))) | (with_reducible refine bvia (unhide HB6) ?_ ?_; (focus (first | omega | (simp; done) | (simp; omega)))))
set_option maxRecDepth 10000 in
theorem devEager_any (h : DevAt w b t key F on wait next age) (ao : Option Addr) (n cap : Nat) :
    Calls Tryz.prog 166 #[.pointer (some ⟨b, 0, none⟩), .slice ao n cap] w fun e w' => e = .returned (outV (.slice ao n cap) on 0 1 age 0 ⟨#[]⟩ (-1)) ∧ Below w.heap.size w w' := by
  have HD := hide h
  clear h
  go_enter Tryz.func166, Tryz.ntmps166
  go_wp2_with fail
  refine (devStill_any ((unhide HD).alloc _)).mono ?_
  rintro e w1 ⟨rfl, hb1⟩
  obtain ⟨k1, hs1, hb⟩ := blk1 hb1
  obtain ⟨hx1, hf1⟩ := block_facts k1
  have HB := hide hb
  clear hb hb1 k1
  have l1 : w.heap.size < w1.heap.size := (by omega); have n1 : ¬ w.heap.size = w1.heap.size := (by omega)
  go_wp2
  refine bodyPost_ret (v := outV (.slice ao n cap) on 0 1 age 0 ⟨#[]⟩ (-1)) (by simp [results, Tryz.results166, go_sem, hx1, l1]) rfl ⟨rfl, ?_⟩
  repeat (first | with_reducible exact unhide HB | with_reducible exact Below.refl _ _ | with_reducible refine bdrew ?_ | (with_reducible refine brow ?_ ?_; (focus (first | omega | (simp; done) | (simp; omega)))) | (with_reducible refine bset ?_ ?_; (focus (first | omega | (simp; done) | (simp; omega)))) | (with_reducible refine balloc ?_ ?_; (focus (first | omega | (simp; done) | (simp; omega)))) | (with_reducible refine bvia (unhide HB1) ?_ ?_; (focus (first | omega | (simp; done) | (simp; omega)))) | (with_reducible refine bvia (unhide HB2) ?_ ?_; (focus (first | omega | (simp; done) | (simp; omega)))) | (with_reducible refine bvia (unhide HB3) ?_ ?_; (focus (first | omega | (simp; done) | (simp; omega)))) | (with_reducible refine bvia (unhide HB4) ?_ ?_; (focus (first | omega | (simp; done) | (simp; omega)))) | (with_reducible refine bvia (unhide HB5) ?_ ?_; (focus (first | omega | (simp; done) | (simp; omega)))) | (with_reducible refine bvia (unhide HB6) ?_ ?_; (focus (first | omega | (simp; done) | (simp; omega)))))
theorem devLonger_any (n : Nat) (w : World) (hn : n ≤ 1000) :
    Calls Tryz.prog 186 #[.int .i64 n] w fun e w' => e = .returned (.int .i64 (min 8 (2 * n) : Nat)) ∧ w = w' := by
  by_cases h : 8 < 2 * n
  · have h1 : (8 : Int) < 2 * (n : Int) := by omega
    go_enter Tryz.func186, Tryz.ntmps186
    go_wp2
    go_ret
    exact ⟨ret_int (by omega), rfl⟩
  · have h1 : ¬ (8 : Int) < 2 * (n : Int) := by omega
    go_enter Tryz.func186, Tryz.ntmps186
    go_wp2
    go_ret
    exact ⟨ret_int (by omega), rfl⟩
theorem devFailed_any (e : Int) (w : World) :
    Calls Tryz.prog 108 #[.int .i64 e] w fun x w' => x = .returned (.agg #[.int .i64 e, .int .i64 0, .string ⟨#[]⟩, .int .i64 (-1)]) ∧ Below w.heap.size w w' := by
  go_enter Tryz.func108, Tryz.ntmps108
  go_wp2
  refine bodyPost_ret (v := .agg #[.int .i64 e, .int .i64 0, .string ⟨#[]⟩, .int .i64 (-1)]) (by simp [results, Tryz.results108, go_sem]) rfl ⟨rfl, ?_⟩
  repeat (first | with_reducible exact unhide HB | with_reducible exact Below.refl _ _ | with_reducible refine bdrew ?_ | (with_reducible refine brow ?_ ?_; (focus (first | omega | (simp; done) | (simp; omega)))) | (with_reducible refine bset ?_ ?_; (focus (first | omega | (simp; done) | (simp; omega)))) | (with_reducible refine balloc ?_ ?_; (focus (first | omega | (simp; done) | (simp; omega)))) | (with_reducible refine bvia (unhide HB1) ?_ ?_; (focus (first | omega | (simp; done) | (simp; omega)))) | (with_reducible refine bvia (unhide HB2) ?_ ?_; (focus (first | omega | (simp; done) | (simp; omega)))) | (with_reducible refine bvia (unhide HB3) ?_ ?_; (focus (first | omega | (simp; done) | (simp; omega)))) | (with_reducible refine bvia (unhide HB4) ?_ ?_; (focus (first | omega | (simp; done) | (simp; omega)))) | (with_reducible refine bvia (unhide HB5) ?_ ?_; (focus (first | omega | (simp; done) | (simp; omega)))) | (with_reducible refine bvia (unhide HB6) ?_ ?_; (focus (first | omega | (simp; done) | (simp; omega)))))
end
/-- an outcome in memory is what a plan says -/
def resW (x : M.Wr) : Nat × (Fin 16 → Nat) := (x.1, fun i => x.2 i)
def OutIs (w0 : World) (p : M.Plan) (e : Ending) (w' : World) : Prop :=
  ∃ (ao : Option Addr) (cap : Nat) (l : List GW), e = .returned (outV (.slice ao l.length cap) p.on p.wait p.next p.age p.err p.text p.ask) ∧
    w'.ownsRow w0.heap.size 136 2 (.slice ao l.length cap) l.length (gwCells l) ∧ (∀ a ∈ l, a.1 < 23 ∧ a.2.size ≤ maxLen) ∧ l.length ≤ 20 ∧ (gwsOf l).map resW = p.ws.map resW ∧ Below w0.heap.size w0 w'
theorem put_res {x y : M.Wr} (h : resW x = resW y) {t : Nat} (ht : t ≤ 16) (F : Nat → Nat) : M.put F x.1 x.2 t = M.put F y.1 y.2 t := by
  have h1 : x.1 = y.1 := by have := congrArg Prod.fst h; exact this
  have h2 : ∀ i, i < 16 → x.2 i = y.2 i := fun i hi => by have := congrFun (congrArg Prod.snd h) ⟨i, hi⟩; exact this
  funext j
  unfold M.put
  rw [h1]
  by_cases hc : 16 * y.1 ≤ j ∧ j < 16 * y.1 + t
  · rw [if_pos hc, if_pos hc, h2 _ (by omega)]
  · rw [if_neg hc, if_neg hc]
theorem puts_res {l r : List M.Wr} (h : l.map resW = r.map resW) (F : Nat → Nat) : M.puts F l = M.puts F r := by
  induction l generalizing r F with
  | nil =>
    cases r with
    | nil => rfl
    | cons y r => simp at h
  | cons x l ih =>
    cases r with
    | nil => simp at h
    | cons y r =>
      rw [List.map_cons, List.map_cons] at h
      have h1 := (List.cons.inj h).1
      have h2 := (List.cons.inj h).2
      rw [M.puts_cons, M.puts_cons, put_res h1 (Nat.le_refl _), ih h2]
theorem length_res {l r : List M.Wr} (h : l.map resW = r.map resW) : l.length = r.length := by
  have := congrArg List.length h
  simpa using this
theorem cut_res {l r : List M.Wr} (h : l.map resW = r.map resW) (F : Nat → Nat) (c : Nat) {t : Nat} (ht : t ≤ 16) : M.cutAt F l c t = M.cutAt F r c t := by
  have hl := length_res h
  by_cases hc : c < l.length
  · rw [M.cutAt_in hc, M.cutAt_in (by omega)]
    have h1 : (l.take c).map resW = (r.take c).map resW := by rw [List.map_take, List.map_take, h]
    rw [puts_res h1]
    refine put_res ?_ ht _
    have e1 : (l.map resW)[c]? = some (resW l[c]) := by simp [hc]
    have e2 : (r.map resW)[c]? = some (resW (r[c]'(by omega))) := by simp [show c < r.length by omega]
    rw [h, e2] at e1
    exact (Option.some.inj e1).symm
  · rw [M.cutAt_all (by omega), M.cutAt_all (by omega)]
    exact puts_res h F
/-- nothing is written -/
theorem out_none {w0 w' : World} {p : M.Plan} {v : Value} (hv : v = outV (.slice none 0 0) p.on p.wait p.next p.age p.err p.text p.ask) (hp : p.ws = []) (hb : Below w0.heap.size w0 w') : OutIs w0 p (.returned v) w' :=
  ⟨none, 0, [], congrArg Ending.returned hv, World.ownsRow_nil _ _ _ _, (fun a ha => by cases ha), by show 0 ≤ 20; omega, by rw [hp]; rfl, hb⟩
end Go.Proofs.YtjfmiomopfjecabGreat

/- The events of a device over the numbers of its record. -/
namespace Go.Proofs.YtjfmiomopfjecabGreat
open Go.RowKit Go.Lib

def OutRaw (w0 : World) (on : Bool) (wait next age : Nat) (err : Int) (text : ByteArray) (ask : Int) (l : List GW) (e : Ending) (w' : World) : Prop :=
  ∃ (ao : Option Addr) (cap : Nat), e = .returned (outV (.slice ao l.length cap) on wait next age err text ask) ∧ w'.ownsRow w0.heap.size 136 2 (.slice ao l.length cap) l.length (gwCells l) ∧ Below w0.heap.size w0 w'
def RecOk (pg num kp ph tr s0 v0 s1 v1 th : Nat) : Prop := pg ≤ 1 ∧ num < 256 ∧ kp ≤ 1 ∧ ph < 256 ∧ tr < 256 ∧ s0 < 256 ∧ v0 ≤ 65535 ∧ s1 < 256 ∧ v1 ≤ 65535 ∧ th < 256
theorem raw_none {w0 w' : World} {on : Bool} {wait next age : Nat} {err : Int} {text : ByteArray} {ask : Int} {v : Value} (hv : v = outV (.slice none 0 0) on wait next age err text ask) (hb : Below w0.heap.size w0 w') : OutRaw w0 on wait next age err text ask [] (.returned v) w' :=
  ⟨none, 0, congrArg Ending.returned hv, World.ownsRow_nil _ _ _ _, hb⟩
theorem written_ok {pg num kp ph tr s0 v0 s1 v1 th : Nat} (h : RecOk pg num kp ph tr s0 v0 s1 v1 th) (w : World) :
    Calls Tryz.prog 75 #[recV pg num kp ph tr s0 v0 s1 v1 th] w fun e w' => e = .returned (.agg #[.int .i64 pg, .string (recP num kp ph tr s0 v0 s1 v1 th)]) ∧ Below w.heap.size w w' := by
  obtain ⟨h0, h1, h2, h3, h4, h5, h6, h7, h8, h9⟩ := h
  exact written_any pg num kp ph tr s0 v0 s1 v1 th w h1 (by omega) h3 h4 h5 h7 h6 h8 h9
theorem recorded_ok {pg num kp ph tr s0 v0 s1 v1 th : Nat} (h : RecOk pg num kp ph tr s0 v0 s1 v1 th) {w : World} {b : Nat} {t : TypeId} {key : ByteArray} {F : Nat → Nat} {on : Bool} {wait next age : Nat} (hd : DevAt w b t key F on wait next age) :
    Calls Tryz.prog 169 #[.pointer (some ⟨b, 0, none⟩), recV pg num kp ph tr s0 v0 s1 v1 th] w fun e w' => ∃ g, e = .returned (outV (.slice (some ⟨g, 0, none⟩) 1 1) on wait next age 0 ⟨#[]⟩ (-1)) ∧ w'.ownsRow w.heap.size 136 2 (.slice (some ⟨g, 0, none⟩) 1 1) 1 (gwCells [(pg, recP num kp ph tr s0 v0 s1 v1 th)]) ∧ Below w.heap.size w w' := by
  obtain ⟨h0, h1, h2, h3, h4, h5, h6, h7, h8, h9⟩ := h
  exact devRecorded_any hd pg num kp ph tr s0 v0 s1 v1 th h1 (by omega) h3 h4 h5 h7 h6 h8 h9
theorem next_ok {pg num kp ph tr s0 v0 s1 v1 th p q k : Nat} (h : RecOk pg num kp ph tr s0 v0 s1 v1 th) (hp : p < 256) (hq : q < 256) (hk : k ≤ 1) {t : Nat} (ht : t < 256) : RecOk (1 - pg) ((num + 1) % 256) k p q s0 v0 s1 v1 t := by
  obtain ⟨h0, h1, h2, h3, h4, h5, h6, h7, h8, h9⟩ := h
  exact ⟨by omega, by omega, hk, hp, hq, h5, h6, h7, h8, ht⟩
/-- an aggregate that is not looked into -/
theorem opaq {f : FuncId} {args : Array Value} {W : World} {c : Array Value} (h : Calls Tryz.prog f args W fun e w' => e = .returned (.agg c) ∧ Below W.heap.size W w') :
    Calls Tryz.prog f args W fun e w' => ∃ C : Array Value, e = .returned (.agg C) ∧ Hid (C = c) ∧ Below W.heap.size W w' := h.mono fun _ _ ⟨a, b⟩ => ⟨c, a, rfl, b⟩
theorem row_in {W : World} {g : Nat} {old C : Array Value} {t : TypeId} {fr : Nat × Nat} (h : W.heap[g]? = some (.cells old t fr)) : (W.setRow g C).heap[g]? = some (.cells C t fr) := by
  unfold World.setRow
  rw [Array.getElem?_modify, if_pos rfl, h]
  rfl
theorem row_else {W : World} {g k : Nat} {C : Array Value} {o : Obj} (hne : ¬ k = g) (h : W.heap[k]? = some o) : (W.setRow g C).heap[k]? = some o := by
  unfold World.setRow
  rw [Array.getElem?_modify, if_neg (fun e => hne e.symm)]
  exact h
theorem row_size (W : World) (g : Nat) (C : Array Value) : (W.setRow g C).heap.size = W.heap.size := by unfold World.setRow; simp
theorem brow {B : Nat} {w W : World} {g : Nat} {C : Array Value} (hle : B ≤ g) (h : Below B w W) : Below B w (W.setRow g C) := setRow_below h hle C
theorem rec_info : (Tryz.prog.info? 133).map (·.size) = some 10 := by kernel_rfl
theorem own_row {W : World} {base g : Nat} {e : TypeId} {size : Nat} {v : Value} {n : Nat} {xs : List Value} (h : W.ownsRow base e size v n xs) (hg : g < base) (C : Array Value) : (W.setRow g C).ownsRow base e size v n xs := by
  refine ⟨h.1, ?_⟩
  rcases h.2 with hn | ⟨k, cap, cur, hv, hb, hk, rest⟩
  · exact .inl hn
  · exact .inr ⟨k, cap, cur, hv, hb, row_else (by omega) hk, rest⟩
theorem out_info : (Tryz.prog.info? 163).map (·.size) = some 8 := by kernel_rfl
section
variable {pg num kp ph tr s0 v0 s1 v1 th : Nat} {w : World} {b : Nat} {t : TypeId} {key : ByteArray} {F : Nat → Nat} {on : Bool} {wait next age : Nat}
set_option maxRecDepth 10000 in
set_option maxHeartbeats 1000000 in
theorem rawBoot_trial (h : RecOk pg num kp 2 tr s0 v0 s1 v1 th) {p q : Nat} (hpq : if tr = 0 then p = 0 ∧ q = 0 else p = 2 ∧ q = tr - 1) :
    Calls Tryz.prog 132 #[recV pg num kp 2 tr s0 v0 s1 v1 th] w fun e w' => OutRaw w true 0 1 0 0 ⟨#[]⟩ (-1) [(1 - pg, recP ((num + 1) % 256) kp p q s0 v0 s1 v1 0)] e w' := by
  have hpq2 : p < 256 ∧ q < 256 := by
    have := h.2.2.2.2.1
    by_cases h0 : tr = 0
    · rw [if_pos h0] at hpq; omega
    · rw [if_neg h0] at hpq; omega
  have HW := hide (fun W => written_ok (next_ok (p := p) (q := q) (k := kp) (t := 0) h hpq2.1 hpq2.2 h.2.2.1 (by omega)) W)
  have HT := hide (fun W => recTried_any pg num kp 2 tr s0 v0 s1 v1 th p q W h.1 h.2.1 h.2.2.2.2.1 hpq)
  clear h hpq hpq2
  go_enter Tryz.func132, Tryz.ntmps132
  go_wp2_with fail
  refine (booted_any _).mono ?_
  rintro e w1 ⟨rfl, hb1⟩
  obtain ⟨k1, k2, hs1, hb⟩ := blk2 hb1
  obtain ⟨hx1, hf1⟩ := block_facts k1
  have K2 := hide k2
  have HB := hide hb
  clear hb hb1 k1 k2
  have l1 : w.heap.size < w1.heap.size := (by omega); have n1 : ¬ w.heap.size = w1.heap.size := (by omega)
  have l2 : w.heap.size + 1 < w1.heap.size := (by omega); have n2 : ¬ w.heap.size + 1 = w1.heap.size := (by omega)
  go_wp2_with fail
  refine (unhide HT _).mono ?_
  rintro e w2 ⟨rfl, hb2⟩
  have k2 := kept_block hb2 (alloc_block (unhide K2) _)
  obtain ⟨k3, hs2, hb⟩ := blk1 hb2
  have K2' := hide k2
  have K3 := hide k3
  have HB2 := hide hb
  clear hb hb2 k2 k3 K2 hx1 hf1
  generalize hN : (num + 1) % 256 = N at *
  generalize hP : 1 - pg = P at *
  have HN := hide hN
  have HP := hide hP
  clear hN hP
  go_wp2_with fail
  refine (unhide HW _).mono ?_
  rintro e w3 ⟨rfl, hb3⟩
  obtain ⟨hx2, hf2⟩ := block_facts (kept_block hb3 (unhide K2'))
  obtain ⟨hx3, hf3⟩ := block_facts (kept_block hb3 (unhide K3))
  have hs3 := hb3.size
  have HB3 := hide hb3
  generalize hT : recP N kp p q s0 v0 s1 v1 0 = T at *
  have HTT := hide hT
  clear hT hb3
  have l3 : w1.heap.size < w3.heap.size := (by omega); have n3 : ¬ w1.heap.size = w3.heap.size := (by omega)
  have l4 : w.heap.size + 1 < w3.heap.size := (by omega); have n4 : ¬ w.heap.size + 1 = w3.heap.size := (by omega)
  go_wp2
  refine bodyPost_ret (v := outV (.slice (some ⟨w3.heap.size, 0, none⟩) 1 1) true 0 1 0 0 ⟨#[]⟩ (-1)) (by simp [results, Tryz.results132, go_sem, hx2, l4]) rfl ⟨some ⟨w3.heap.size, 0, none⟩, 1, rfl, ?_, ?_⟩
  · rw [HN.out, HP.out, HTT.out]
    refine own_one (y := (P, T)) ?_ (by omega)
    repeat (first | with_reducible exact unhide HB | (with_reducible refine lblk ?_; (focus (first | rfl | (simp; done)))) | with_reducible refine ablk ?_ | with_reducible refine drew_block ?_ | (with_reducible refine sblk ?_ ?_; (focus (first | omega | (simp; done) | (simp; omega)))))
  · repeat (first | with_reducible exact unhide HB | with_reducible exact Below.refl _ _ | with_reducible refine bdrew ?_ | (with_reducible refine brow ?_ ?_; (focus (first | omega | (simp; done) | (simp; omega)))) | (with_reducible refine bset ?_ ?_; (focus (first | omega | (simp; done) | (simp; omega)))) | (with_reducible refine balloc ?_ ?_; (focus (first | omega | (simp; done) | (simp; omega)))) | (with_reducible refine bvia (unhide HB1) ?_ ?_; (focus (first | omega | (simp; done) | (simp; omega)))) | (with_reducible refine bvia (unhide HB2) ?_ ?_; (focus (first | omega | (simp; done) | (simp; omega)))) | (with_reducible refine bvia (unhide HB3) ?_ ?_; (focus (first | omega | (simp; done) | (simp; omega)))) | (with_reducible refine bvia (unhide HB4) ?_ ?_; (focus (first | omega | (simp; done) | (simp; omega)))) | (with_reducible refine bvia (unhide HB5) ?_ ?_; (focus (first | omega | (simp; done) | (simp; omega)))) | (with_reducible refine bvia (unhide HB6) ?_ ?_; (focus (first | omega | (simp; done) | (simp; omega)))))
set_option maxRecDepth 10000 in
theorem rawBoot_else (hp : ph ≠ 2) :
    Calls Tryz.prog 132 #[recV pg num kp ph tr s0 v0 s1 v1 th] w fun e w' => OutRaw w true 0 1 0 0 ⟨#[]⟩ (-1) [] e w' := by
  have hp2 : ¬ (ph : Int) = 2 := by omega
  go_enter Tryz.func132, Tryz.ntmps132
  go_wp2_with fail
  refine (booted_any _).mono ?_
  rintro e w1 ⟨rfl, hb1⟩
  obtain ⟨k1, k2, hs1, hb⟩ := blk2 hb1
  obtain ⟨hx1, hf1⟩ := block_facts k1
  obtain ⟨hx2, hf2⟩ := block_facts k2
  have HB := hide hb
  clear hb hb1 k1 k2
  have l1 : w.heap.size < w1.heap.size := (by omega); have n1 : ¬ w.heap.size = w1.heap.size := (by omega)
  have l2 : w.heap.size + 1 < w1.heap.size := (by omega); have n2 : ¬ w.heap.size + 1 = w1.heap.size := (by omega)
  go_wp2
  refine bodyPost_ret (v := outV (.slice none 0 0) true 0 1 0 0 ⟨#[]⟩ (-1)) (by simp [results, Tryz.results132, go_sem, hx2, l2]) rfl (raw_none rfl ?_)
  repeat (first | with_reducible exact unhide HB | with_reducible exact Below.refl _ _ | with_reducible refine bdrew ?_ | (with_reducible refine brow ?_ ?_; (focus (first | omega | (simp; done) | (simp; omega)))) | (with_reducible refine bset ?_ ?_; (focus (first | omega | (simp; done) | (simp; omega)))) | (with_reducible refine balloc ?_ ?_; (focus (first | omega | (simp; done) | (simp; omega)))) | (with_reducible refine bvia (unhide HB1) ?_ ?_; (focus (first | omega | (simp; done) | (simp; omega)))) | (with_reducible refine bvia (unhide HB2) ?_ ?_; (focus (first | omega | (simp; done) | (simp; omega)))) | (with_reducible refine bvia (unhide HB3) ?_ ?_; (focus (first | omega | (simp; done) | (simp; omega)))) | (with_reducible refine bvia (unhide HB4) ?_ ?_; (focus (first | omega | (simp; done) | (simp; omega)))) | (with_reducible refine bvia (unhide HB5) ?_ ?_; (focus (first | omega | (simp; done) | (simp; omega)))) | (with_reducible refine bvia (unhide HB6) ?_ ?_; (focus (first | omega | (simp; done) | (simp; omega)))))
set_option maxRecDepth 10000 in
theorem rawConfirm_no (hd : DevAt w b t key F on wait next age) (hp : ph ≠ 2) :
    Calls Tryz.prog 137 #[.pointer (some ⟨b, 0, none⟩), recV pg num kp ph tr s0 v0 s1 v1 th] w fun e w' => OutRaw w on wait next age 12 ⟨#[]⟩ (-1) [] e w' := by
  have hp2 : ((ph : Int) != 2) = true := by simp; omega
  have HD := hide hd
  clear hd
  go_enter Tryz.func137, Tryz.ntmps137
  go_wp2_with fail
  refine (devFault_any (((unhide HD).alloc _).alloc _) 12).mono ?_
  rintro e w1 ⟨rfl, hb1⟩
  obtain ⟨k1, k2, hs1, hb⟩ := blk2 hb1
  obtain ⟨hx2, hf2⟩ := block_facts k2
  have HB := hide hb
  clear hb hb1 k1 k2
  have l2 : w.heap.size + 1 < w1.heap.size := (by omega); have n2 : ¬ w.heap.size + 1 = w1.heap.size := (by omega)
  go_wp2
  refine bodyPost_ret (v := outV (.slice none 0 0) on wait next age 12 ⟨#[]⟩ (-1)) (by simp [results, Tryz.results137, go_sem, hx2]) rfl (raw_none rfl ?_)
  repeat (first | with_reducible exact unhide HB | with_reducible exact Below.refl _ _ | with_reducible refine bdrew ?_ | (with_reducible refine brow ?_ ?_; (focus (first | omega | (simp; done) | (simp; omega)))) | (with_reducible refine bset ?_ ?_; (focus (first | omega | (simp; done) | (simp; omega)))) | (with_reducible refine balloc ?_ ?_; (focus (first | omega | (simp; done) | (simp; omega)))) | (with_reducible refine bvia (unhide HB1) ?_ ?_; (focus (first | omega | (simp; done) | (simp; omega)))) | (with_reducible refine bvia (unhide HB2) ?_ ?_; (focus (first | omega | (simp; done) | (simp; omega)))) | (with_reducible refine bvia (unhide HB3) ?_ ?_; (focus (first | omega | (simp; done) | (simp; omega)))) | (with_reducible refine bvia (unhide HB4) ?_ ?_; (focus (first | omega | (simp; done) | (simp; omega)))) | (with_reducible refine bvia (unhide HB5) ?_ ?_; (focus (first | omega | (simp; done) | (simp; omega)))) | (with_reducible refine bvia (unhide HB6) ?_ ?_; (focus (first | omega | (simp; done) | (simp; omega)))))
set_option maxRecDepth 10000 in
set_option maxHeartbeats 1000000 in
theorem rawConfirm_yes (hd : DevAt w b t key F on wait next age) (h : RecOk pg num kp 2 tr s0 v0 s1 v1 th) :
    Calls Tryz.prog 137 #[.pointer (some ⟨b, 0, none⟩), recV pg num kp 2 tr s0 v0 s1 v1 th] w fun e w' => OutRaw w on wait next age 0 ⟨#[]⟩ (-1) [(1 - pg, recP ((num + 1) % 256) (1 - kp) 0 0 s0 v0 s1 v1 0)] e w' := by
  have HD := hide hd
  have HC := hide (fun W => recConfirmed_any pg num kp 2 tr s0 v0 s1 v1 th W h.1 h.2.1 h.2.2.1)
  have HR := hide (fun (W : World) (hW : DevAt W b t key F on wait next age) => recorded_ok (next_ok (p := 0) (q := 0) (k := 1 - kp) (t := 0) h (by omega) (by omega) (by omega) (by omega)) hW)
  clear hd h
  go_enter Tryz.func137, Tryz.ntmps137
  go_wp2_with fail
  refine (unhide HC _).mono ?_
  rintro e w1 ⟨rfl, hb1⟩
  obtain ⟨k1, k2, hs1, hb⟩ := blk2 hb1
  have HD1 := hide ((((unhide HD).alloc _).alloc _).kept hb1)
  have K2 := hide k2
  have HB1 := hide hb
  clear hb hb1 k1 k2
  go_wp2_with fail
  refine (unhide HR _ (unhide HD1)).mono ?_
  rintro e w2 ⟨g, rfl, hown, hb2⟩
  obtain ⟨hx2, hf2⟩ := block_facts (kept_block hb2 (unhide K2))
  have hs2 := hb2.size
  have HO : Hid (w2.ownsRow w1.heap.size 136 2 (.slice (some ⟨g, 0, none⟩) 1 1) 1 (gwCells [(1 - pg, recP ((num + 1) % 256) (1 - kp) 0 0 s0 v0 s1 v1 0)])) := hown
  have HB2 := hide hb2
  clear hown hb2
  have l2 : w.heap.size + 1 < w2.heap.size := (by omega); have n2 : ¬ w.heap.size + 1 = w2.heap.size := (by omega)
  go_wp2
  refine bodyPost_ret (v := outV (.slice (some ⟨g, 0, none⟩) 1 1) on wait next age 0 ⟨#[]⟩ (-1)) (by simp [results, Tryz.results137, go_sem, hx2]) rfl ⟨some ⟨g, 0, none⟩, 1, rfl, ?_, ?_⟩
  · refine ownsRow_base (base' := w1.heap.size) ?_ (by omega)
    iterate 8 refine ownsRow_setCell_below ?_ (by show w.heap.size + 1 < w1.heap.size; omega) _
    exact unhide HO
  · repeat (first | with_reducible exact unhide HB | with_reducible exact Below.refl _ _ | with_reducible refine bdrew ?_ | (with_reducible refine brow ?_ ?_; (focus (first | omega | (simp; done) | (simp; omega)))) | (with_reducible refine bset ?_ ?_; (focus (first | omega | (simp; done) | (simp; omega)))) | (with_reducible refine balloc ?_ ?_; (focus (first | omega | (simp; done) | (simp; omega)))) | (with_reducible refine bvia (unhide HB1) ?_ ?_; (focus (first | omega | (simp; done) | (simp; omega)))) | (with_reducible refine bvia (unhide HB2) ?_ ?_; (focus (first | omega | (simp; done) | (simp; omega)))) | (with_reducible refine bvia (unhide HB3) ?_ ?_; (focus (first | omega | (simp; done) | (simp; omega)))) | (with_reducible refine bvia (unhide HB4) ?_ ?_; (focus (first | omega | (simp; done) | (simp; omega)))) | (with_reducible refine bvia (unhide HB5) ?_ ?_; (focus (first | omega | (simp; done) | (simp; omega)))) | (with_reducible refine bvia (unhide HB6) ?_ ?_; (focus (first | omega | (simp; done) | (simp; omega)))))
end
end Go.Proofs.YtjfmiomopfjecabGreat

/- What a device holds: its record, its manifest, its images. -/
namespace Go.Proofs.YtjfmiomopfjecabGreat
open Go.RowKit Go.Lib

theorem page_bz {F : Nat → Nat} (hF : ∀ j, F j < 256) {p : Nat} (hp : p < 23) {i : Nat} (hi : i < 16) : M.bz (pageT F p) i = F (16 * p + i) := by
  unfold pageT
  rw [if_pos ⟨by omega, by omega⟩, Int.toNat_natCast]
  exact M.bz_mk (fun _ _ => hF _) hi
theorem page_size (F : Nat → Nat) (i : Int) : (pageT F i).size ≤ 16 := by
  unfold pageT
  split
  · rw [M.mk_size]; omega
  · show 0 ≤ 16; omega
theorem recT_is {F : Nat → Nat} (hF : ∀ j, F j < 256) {p : Nat} (hp : p < 23) : recT p (pageT F p) = recV p (F (16 * p)) (F (16 * p + 1)) (F (16 * p + 2)) (F (16 * p + 3)) (F (16 * p + 4)) (256 * F (16 * p + 6) + F (16 * p + 7) : Nat) (F (16 * p + 5)) (256 * F (16 * p + 8) + F (16 * p + 9) : Nat) (F (16 * p + 10)) := by
  unfold recT
  rw [page_bz hF hp (by omega), page_bz hF hp (by omega), page_bz hF hp (by omega), page_bz hF hp (by omega), page_bz hF hp (by omega), page_bz hF hp (by omega), page_bz hF hp (by omega), page_bz hF hp (by omega), page_bz hF hp (by omega), page_bz hF hp (by omega), page_bz hF hp (by omega), Nat.mul_comm 256, Nat.mul_comm 256, Nat.add_zero]
theorem stand_is {F : Nat → Nat} (hF : ∀ j, F j < 256) : standT (pageT F 0) (pageT F 1) = recF F := by
  have h0 : ∀ i, i < 16 → M.bz (pageT F 0) i = F i := fun i hi => by
    have := page_bz hF (p := 0) (by omega) hi
    rw [Nat.mul_zero, Nat.zero_add] at this
    exact this
  have h1 : ∀ i, i < 16 → M.bz (pageT F 1) i = F (16 + i) := fun i hi => page_bz hF (p := 1) (by omega) hi
  have e : followsB (pageT F 0) (pageT F 1) = decide (F 16 = F 31 ∧ (F 0 ≠ F 15 ∨ F 16 = (F 0 + 1) % 256)) := by
    unfold followsB
    rw [h0 0 (by omega), h0 15 (by omega), h1 0 (by omega), h1 15 (by omega)]
  unfold standT
  rw [e]
  by_cases hc : F 16 = F 31 ∧ (F 0 ≠ F 15 ∨ F 16 = (F 0 + 1) % 256)
  · have hr : M.recAt F = 1 := if_pos hc
    rw [if_pos (decide_eq_true hc)]
    have := recT_is hF (p := 1) (by omega)
    refine Eq.trans this ?_
    unfold recF M.verOf M.fld
    rw [hr]
  · have hr : M.recAt F = 0 := if_neg hc
    rw [if_neg (by rw [decide_eq_false hc]; simp)]
    have := recT_is hF (p := 0) (by omega)
    refine Eq.trans this ?_
    unfold recF M.verOf M.fld
    rw [hr]
section
variable {w : World} {b : Nat} {t : TypeId} {key : ByteArray} {F : Nat → Nat} {on : Bool} {wait next age : Nat}
set_option maxRecDepth 10000 in
theorem devRecord_any (h : DevAt w b t key F on wait next age) (hF : ∀ j, F j < 256) :
    Calls Tryz.prog 80 #[.pointer (some ⟨b, 0, none⟩)] w fun e w' => e = .returned (recF F) ∧ Below w.heap.size w w' := by
  have hlt := h.lt
  have HD : Hid (DevAt (w.alloc (.cells #[.int .i64 0, .int .i64 0, .int .i64 0, .int .i64 0, .int .i64 0, .int .i64 0, .int .i64 0, .int .i64 0, .int .i64 0, .int .i64 0] 133)) b t key F on wait next age) := h.mono ((Below.refl _ _).alloc (Nat.le_refl _) _) hlt
  have HS := hide (stand_is hF)
  clear h
  go_enter Tryz.func80, Tryz.ntmps80
  go_wp2_with fail
  refine (flashPage_any (unhide HD) hF 0).mono ?_
  rintro e w' ⟨rfl, rfl⟩
  go_wp2_with fail
  refine (flashPage_any (unhide HD) hF 1).mono ?_
  rintro e w' ⟨rfl, rfl⟩
  have p0 := page_size F 0
  have p1 := page_size F 1
  go_wp2_with fail
  refine (recStanding_any _ _ _ (by unfold maxLen; omega) (by unfold maxLen; omega)).mono ?_
  rintro e w1 ⟨rfl, hb⟩
  rw [HS.out]
  clear p0 p1
  have HB : Hid (Below w.heap.size w w1) := one_alloc (hb.mono (by simp))
  obtain ⟨hz, hfz⟩ := block_facts ((hb.block w.heap.size (by simp)).trans (last_block _ _ rfl))
  clear hb
  generalize pageT F 0 = A at *
  generalize pageT F 1 = A2 at *
  go_wp2
  refine bodyPost_ret (v := recF F) (by simp [results, Tryz.results80, go_sem, hz]) rfl ⟨rfl, ?_⟩
  iterate 10 refine Below.setCell ?_ (by simp) _
  exact unhide HB
theorem bz_mf {F : Nat → Nat} (hF : ∀ j, F j < 256) {j : Nat} (hj : j < 48) : M.bz (M.mk 48 fun j => F (16 * 2 + j)) j = M.mf F j := M.bz_mk (fun _ _ => hF _) hj
theorem seal_congr {g g' : Nat → Nat} (h : ∀ j, j < 48 → g' j = g j) : M.sealX g' = M.sealX g := by
  unfold M.sealX
  rw [h 4 (by omega), h 5 (by omega)]
  by_cases h1 : g 4 < 1 ∨ 96 < g 4 ∨ g 5 < 1 ∨ 96 < g 5
  · rw [if_pos h1, if_pos h1]
  · have hc : M.chunksN (g 4) ≤ 6 := by unfold M.chunksN; omega
    rw [h (8 + 2 * M.chunksN (g 4)) (by omega), h (9 + 2 * M.chunksN (g 4)) (by omega), h (10 + 2 * M.chunksN (g 4)) (by omega)]
theorem man_congr {g g' : Nat → Nat} {v : Value} {at_ : Nat} (h : ∀ j, j < 48 → g' j = g j) (hs : M.sealX g = some at_) : manOf g' v = manOf g v ∧ M.sumsL g' (M.chunksN (g' 4)) = M.sumsL g (M.chunksN (g 4)) := by
  have hle := M.sealX_le hs
  have hc := hle.2.2.2.2.2.2
  have e4 := h 4 (by omega)
  have e8 := h (8 + 2 * M.chunksN (g 4)) (by omega)
  have e9 := h (9 + 2 * M.chunksN (g 4)) (by omega)
  have e10 := h (10 + 2 * M.chunksN (g 4)) (by omega)
  have n0 : M.numAt g' 0 = M.numAt g 0 := by unfold M.numAt; rw [h 0 (by omega), h (0 + 1) (by omega)]
  have n2 : M.numAt g' 2 = M.numAt g 2 := by unfold M.numAt; rw [h 2 (by omega), h (2 + 1) (by omega)]
  have n6 : M.numAt g' 6 = M.numAt g 6 := by unfold M.numAt; rw [h 6 (by omega), h (6 + 1) (by omega)]
  have x1 : M.exB g' = M.exB g := by unfold M.exB; rw [e4, e8]
  have hb : g (8 + 2 * M.chunksN (g 4)) = 1 → g (9 + 2 * M.chunksN (g 4)) ≤ 8 ∧ g (10 + 2 * M.chunksN (g 4)) ≤ 8 := by
    intro ht
    have hs2 := hs
    unfold M.sealX at hs2
    rw [if_neg (by omega), if_neg (by omega), if_pos ht] at hs2
    by_cases h5 : 8 < g (9 + 2 * M.chunksN (g 4)) ∨ 8 < g (10 + 2 * M.chunksN (g 4))
    · rw [if_pos h5] at hs2; cases hs2
    · omega
  have x2 : M.exQ g' = M.exQ g := by
    unfold M.exQ
    rw [e4, e8, e9]
    by_cases ht : g (8 + 2 * M.chunksN (g 4)) = 1
    · rw [if_pos ht, if_pos ht]
      have := hb ht
      exact M.mk_congr fun j hj => h _ (by omega)
    · rw [if_neg ht, if_neg ht]
  have x3 : M.exA g' = M.exA g := by
    unfold M.exA
    rw [e4, e8, e9, e10]
    by_cases ht : g (8 + 2 * M.chunksN (g 4)) = 1
    · rw [if_pos ht, if_pos ht]
      have := hb ht
      exact M.mk_congr fun j hj => h _ (by omega)
    · rw [if_neg ht, if_neg ht]
  refine ⟨by unfold manOf; rw [n0, n2, n6, e4, h 5 (by omega), x1, x2, x3], ?_⟩
  rw [e4]
  unfold M.sumsL
  refine List.map_congr_left fun i hi => ?_
  rw [List.mem_range] at hi
  unfold M.numAt
  rw [h (8 + 2 * i) (by omega), h (8 + 2 * i + 1) (by omega)]
set_option maxRecDepth 10000 in
theorem devManifest_any (h : DevAt w b t key F on wait next age) (hF : ∀ j, F j < 256) {at_ : Nat} (hs : M.sealX (M.mf F) = some at_) :
    Calls Tryz.prog 83 #[.pointer (some ⟨b, 0, none⟩)] w fun e w' => ∃ ao cap, e = .returned (manOf (M.mf F) (.slice ao (M.chunksN (M.mf F 4)) cap)) ∧ w'.ownsRow (w.heap.size + 1) 3 1 (.slice ao (M.chunksN (M.mf F 4)) cap) (M.chunksN (M.mf F 4)) (intCells (M.sumsL (M.mf F) (M.chunksN (M.mf F 4)))) ∧ Below w.heap.size w w' := by
  have HD := hide h
  have HMC := hide (fun v : Value => man_congr (v := v) (g := M.mf F) (g' := M.bz (M.mk 48 fun j => F (16 * 2 + j))) (fun j hj => bz_mf hF hj) hs)
  have HE4 := hide (bz_mf hF (j := 4) (by omega))
  have HST := hide (fun W => manStored_any (M.mk 48 fun j => F (16 * 2 + j)) at_ W (by rw [M.mk_size]; unfold maxLen; omega) ((seal_congr (fun j hj => bz_mf hF hj)).trans hs))
  have HFT := hide (flashText_in (h.alloc (.cells #[.int .i64 0, .int .i64 0, .int .i64 0, .int .i64 0, .int .i64 0, .slice none 0 0, .bool false, .string ⟨#[]⟩, .string ⟨#[]⟩] 143)) hF 2 48 2 48 (by omega) (by omega) rfl rfl)
  clear h hs
  go_enter Tryz.func83, Tryz.ntmps83
  go_wp2_with fail
  refine (unhide HFT).mono ?_
  rintro e w' ⟨rfl, rfl⟩
  go_wp2_with fail
  refine (unhide HST _).mono ?_
  rintro e w1 ⟨ao, cap, rfl, hown, hb1⟩
  rw [HE4.out] at hown
  rw [HE4.out, ((unhide HMC) _).1]
  have e2 := ((unhide HMC) (.slice ao 0 0)).2
  rw [HE4.out] at e2
  rw [e2] at hown
  obtain ⟨k1, hs1, hb⟩ := blk1 hb1
  obtain ⟨hx1, hf1⟩ := block_facts k1
  have HO : Hid (w1.ownsRow (w.heap.size + 1) 3 1 (.slice ao (M.chunksN (M.mf F 4)) cap) (M.chunksN (M.mf F 4)) (intCells (M.sumsL (M.mf F) (M.chunksN (M.mf F 4))))) := ownsRow_base hown (by simp)
  have HB := hide hb
  clear hb hb1 k1 hown e2
  generalize (M.mk 48 fun j => F (16 * 2 + j)) = S at *
  have l1 : w.heap.size < w1.heap.size := (by omega); have n1 : ¬ w.heap.size = w1.heap.size := (by omega)
  go_wp2
  refine bodyPost_ret (v := manOf (M.mf F) (.slice ao (M.chunksN (M.mf F 4)) cap)) (by simp [results, Tryz.results83, go_sem, hx1]) rfl ⟨ao, cap, rfl, ?_, ?_⟩
  · iterate 9 refine ownsRow_setCell_below ?_ (by show w.heap.size < _; omega) _
    exact unhide HO
  · repeat (first | with_reducible exact unhide HB | with_reducible exact Below.refl _ _ | with_reducible refine bdrew ?_ | (with_reducible refine brow ?_ ?_; (focus (first | omega | (simp; done) | (simp; omega)))) | (with_reducible refine bset ?_ ?_; (focus (first | omega | (simp; done) | (simp; omega)))) | (with_reducible refine balloc ?_ ?_; (focus (first | omega | (simp; done) | (simp; omega)))) | (with_reducible refine bvia (unhide HB1) ?_ ?_; (focus (first | omega | (simp; done) | (simp; omega)))) | (with_reducible refine bvia (unhide HB2) ?_ ?_; (focus (first | omega | (simp; done) | (simp; omega)))) | (with_reducible refine bvia (unhide HB3) ?_ ?_; (focus (first | omega | (simp; done) | (simp; omega)))) | (with_reducible refine bvia (unhide HB4) ?_ ?_; (focus (first | omega | (simp; done) | (simp; omega)))) | (with_reducible refine bvia (unhide HB5) ?_ ?_; (focus (first | omega | (simp; done) | (simp; omega)))) | (with_reducible refine bvia (unhide HB6) ?_ ?_; (focus (first | omega | (simp; done) | (simp; omega)))))
end
end Go.Proofs.YtjfmiomopfjecabGreat

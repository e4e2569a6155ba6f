/- Texts laid together: ManLeaf, ManRead, ManUse, DevNewWalk, DevSlots, DevOut, DevRaw, DevLook, DevRaw2, PatchApply, DevBuilt, DevRaw3, DevRaw4. -/
import Derived.Test.YtjfmiomopfjecabGreatAc
import Derived.Test.YtjfmiomopfjecabGreatAa
import Derived.Test.YtjfmiomopfjecabGreatAb
/- Manifests, walked. -/
namespace Go.Proofs.YtjfmiomopfjecabGreat
open Go.RowKit Go.Lib

abbrev manC (ver base ps is sm : Int) (v : Value) (ex : Bool) (q a : ByteArray) : Array Value := #[.int .i64 ver, .int .i64 base, .int .i64 ps, .int .i64 is, .int .i64 sm, v, .bool ex, .string q, .string a]
abbrev manV (ver base ps is sm : Int) (v : Value) (ex : Bool) (q a : ByteArray) : Value := .agg #[.int .i64 ver, .int .i64 base, .int .i64 ps, .int .i64 is, .int .i64 sm, v, .bool ex, .string q, .string a]
abbrev manZ : Value := manV 0 0 0 0 0 (.slice none 0 0) false ⟨#[]⟩ ⟨#[]⟩
/-- the manifest that a text tells, its sums in the slice v -/
abbrev manOf (g : Nat → Nat) (v : Value) : Value := manV (M.numAt g 0) (M.numAt g 2) (g 4) (g 5) (M.numAt g 6) v (M.exB g) (M.exQ g) (M.exA g)
theorem ret_man {a0 a1 a2 a3 a4 b0 b1 b2 b3 b4 : Int} {v : Value} {x y : Bool} {q r s t : ByteArray} (h0 : a0 = b0) (h1 : a1 = b1) (h2 : a2 = b2) (h3 : a3 = b3) (h4 : a4 = b4) (h5 : x = y) (h6 : q = r) (h7 : s = t) :
    manV a0 a1 a2 a3 a4 v x q s = manV b0 b1 b2 b3 b4 v y r t := by rw [h0, h1, h2, h3, h4, h5, h6, h7]
set_option maxRecDepth 10000 in
theorem manHead_any (s : ByteArray) (w : World) (hs : s.size ≤ maxLen) :
    Calls Tryz.prog 176 #[.string s] w fun e w' => e = .returned (manV (M.numAt (M.bz s) 0) (M.numAt (M.bz s) 2) (M.bz s 4) (M.bz s 5) (M.numAt (M.bz s) 6) (.slice none 0 0) false ⟨#[]⟩ ⟨#[]⟩) ∧ Below w.heap.size w w' := by
  have HL := hide hs
  go_enter Tryz.func176, Tryz.ntmps176
  go_wp2_with fail
  refine (wordNumber_any s _ 0 _ (unhide HL) rfl (by omega)).mono ?_
  rintro e w' ⟨rfl, rfl⟩
  go_wp2_with fail
  refine (wordNumber_any s _ 2 _ (unhide HL) rfl (by omega)).mono ?_
  rintro e w' ⟨rfl, rfl⟩
  go_wp2_with fail
  refine (wordByte_at s _ 4 _ (unhide HL) rfl).mono ?_
  rintro e w' ⟨rfl, rfl⟩
  go_wp2_with fail
  refine (wordByte_at s _ 5 _ (unhide HL) rfl).mono ?_
  rintro e w' ⟨rfl, rfl⟩
  go_wp2_with fail
  refine (wordNumber_any s _ 6 _ (unhide HL) rfl (by omega)).mono ?_
  rintro e w' ⟨rfl, rfl⟩
  go_wp2
  refine bodyPost_ret (v := manV (M.bz s 0 * 256 + M.bz s 1 : Nat) (M.bz s 2 * 256 + M.bz s 3 : Nat) (M.bz s 4) (M.bz s 5) (M.bz s 6 * 256 + M.bz s 7 : Nat) (.slice none 0 0) false ⟨#[]⟩ ⟨#[]⟩) (by simp [results, Tryz.results176, go_sem]) rfl ⟨rfl, ?_⟩
  repeat (first | with_reducible exact unhide HB | with_reducible exact Below.refl _ _ | with_reducible refine bdrew ?_ | (with_reducible refine brow ?_ ?_; (focus (first | omega | (simp; done) | (simp; omega)))) | (with_reducible refine bset ?_ ?_; (focus (first | omega | (simp; done) | (simp; omega)))) | (with_reducible refine balloc ?_ ?_; (focus (first | omega | (simp; done) | (simp; omega)))) | (with_reducible refine bvia (unhide HB1) ?_ ?_; (focus (first | omega | (simp; done) | (simp; omega)))) | (with_reducible refine bvia (unhide HB2) ?_ ?_; (focus (first | omega | (simp; done) | (simp; omega)))) | (with_reducible refine bvia (unhide HB3) ?_ ?_; (focus (first | omega | (simp; done) | (simp; omega)))) | (with_reducible refine bvia (unhide HB4) ?_ ?_; (focus (first | omega | (simp; done) | (simp; omega)))) | (with_reducible refine bvia (unhide HB5) ?_ ?_; (focus (first | omega | (simp; done) | (simp; omega)))) | (with_reducible refine bvia (unhide HB6) ?_ ?_; (focus (first | omega | (simp; done) | (simp; omega)))))
set_option maxRecDepth 10000 in
theorem manChunks_any (ver base sm is : Int) (ps : Nat) (v : Value) (ex : Bool) (q a : ByteArray) (w : World) (hp : ps ≤ 255) :
    Calls Tryz.prog 85 #[manV ver base ps is sm v ex q a] w fun e w' => e = .returned (.int .i64 (M.chunksN ps)) ∧ Below w.heap.size w w' := by
  go_enter Tryz.func85, Tryz.ntmps85
  go_wp2_with fail
  refine (needed_any ps _ (by omega)).mono ?_
  rintro e w' ⟨rfl, rfl⟩
  generalize hc : M.chunksN ps = c at *
  have HC := hide hc
  clear hc
  go_wp2
  go_ret
  exact ⟨ret_int (by rw [HC.out]), (Below.refl _ _).alloc (Nat.le_refl _) _⟩
set_option maxRecDepth 10000 in
theorem manSize_any (ver base sm is : Int) (ps i : Nat) (v : Value) (ex : Bool) (q a : ByteArray) (w : World) (hp : ps ≤ 255) (hi : i ≤ 10) (hle : 16 * i ≤ ps) :
    Calls Tryz.prog 188 #[manV ver base ps is sm v ex q a, .int .i64 i] w fun e w' => e = .returned (.int .i64 (M.chunkLen ps i)) ∧ Below w.heap.size w w' := by
  have HE : Hid (M.chunkLen ps i = min 16 (ps - 16 * i)) := rfl
  by_cases h : 16 < ps - 16 * i
  · have h1 : (16 : Int) < (ps : Int) - (i : Int) * 16 := by omega
    go_enter Tryz.func188, Tryz.ntmps188
    go_wp2
    go_ret
    exact ⟨ret_int (by rw [HE.out]; omega), (Below.refl _ _).alloc (Nat.le_refl _) _⟩
  · have h1 : ¬ (16 : Int) < (ps : Int) - (i : Int) * 16 := by omega
    go_enter Tryz.func188, Tryz.ntmps188
    go_wp2
    go_ret
    exact ⟨ret_int (by rw [HE.out]; omega), (Below.refl _ _).alloc (Nat.le_refl _) _⟩
theorem ret_man3 {u v : Value} {n m : Int} {b : Bool} (h : u = v) (h2 : n = m) : Ending.returned (.tuple #[u, .int .i64 n, .bool b]) = .returned (.tuple #[v, .int .i64 m, .bool b]) := by rw [h, h2]
set_option maxRecDepth 10000 in
theorem manWith_no (ver base ps is sm : Int) (p : Option Addr) (n c : Nat) (s : ByteArray) (at_ : Nat) (k : Int) (w : World) (hs : s.size ≤ maxLen) (hk : k = at_) (ha : at_ ≤ 1000) (h : 8 < M.bz s at_ ∨ 8 < M.bz s (at_ + 1)) :
    Calls Tryz.prog 177 #[manV ver base ps is sm (.slice p n c) false ⟨#[]⟩ ⟨#[]⟩, .string s, .int .i64 k] w fun e w' => e = .returned (.tuple #[manZ, .int .i64 0, .bool false]) ∧ Below w.heap.size w w' := by
  have HL := hide hs
  subst hk
  have hq := M.bz_lt s at_
  have hr := M.bz_lt s (at_ + 1)
  by_cases h8 : 8 < M.bz s at_
  all_goals
    go_enter Tryz.func177, Tryz.ntmps177
    go_wp2_with fail
    refine (wordByte_at s _ at_ _ (unhide HL) rfl).mono ?_
    rintro e w' ⟨rfl, rfl⟩
    generalize M.bz s at_ = q at *
    go_wp2_with fail
    refine (wordByte_at s _ (at_ + 1) _ (unhide HL) (by omega)).mono ?_
    rintro e w' ⟨rfl, rfl⟩
    generalize M.bz s (at_ + 1) = r at *
    first
    | (have h9 : (8 : Int) < (q : Int) := (by omega); go_wp2; refine bodyPost_ret (v := .tuple #[manZ, .int .i64 0, .bool false]) (by simp [results, Tryz.results177, go_sem]) rfl ⟨rfl, ?_⟩; repeat (first | with_reducible exact unhide HB | with_reducible exact Below.refl _ _ | with_reducible refine bdrew ?_ | (with_reducible refine brow ?_ ?_; (focus (first | omega | (simp; done) | (simp; omega)))) | (with_reducible refine bset ?_ ?_; (focus (first | omega | (simp; done) | (simp; omega)))) | (with_reducible refine balloc ?_ ?_; (focus (first | omega | (simp; done) | (simp; omega)))) | (with_reducible refine bvia (unhide HB1) ?_ ?_; (focus (first | omega | (simp; done) | (simp; omega)))) | (with_reducible refine bvia (unhide HB2) ?_ ?_; (focus (first | omega | (simp; done) | (simp; omega)))) | (with_reducible refine bvia (unhide HB3) ?_ ?_; (focus (first | omega | (simp; done) | (simp; omega)))) | (with_reducible refine bvia (unhide HB4) ?_ ?_; (focus (first | omega | (simp; done) | (simp; omega)))) | (with_reducible refine bvia (unhide HB5) ?_ ?_; (focus (first | omega | (simp; done) | (simp; omega)))) | (with_reducible refine bvia (unhide HB6) ?_ ?_; (focus (first | omega | (simp; done) | (simp; omega))))))
    | (have h9 : ¬ (8 : Int) < (q : Int) := (by omega); have h10 : (8 : Int) < (r : Int) := (by omega); go_wp2; refine bodyPost_ret (v := .tuple #[manZ, .int .i64 0, .bool false]) (by simp [results, Tryz.results177, go_sem]) rfl ⟨rfl, ?_⟩; repeat (first | with_reducible exact unhide HB | with_reducible exact Below.refl _ _ | with_reducible refine bdrew ?_ | (with_reducible refine brow ?_ ?_; (focus (first | omega | (simp; done) | (simp; omega)))) | (with_reducible refine bset ?_ ?_; (focus (first | omega | (simp; done) | (simp; omega)))) | (with_reducible refine balloc ?_ ?_; (focus (first | omega | (simp; done) | (simp; omega)))) | (with_reducible refine bvia (unhide HB1) ?_ ?_; (focus (first | omega | (simp; done) | (simp; omega)))) | (with_reducible refine bvia (unhide HB2) ?_ ?_; (focus (first | omega | (simp; done) | (simp; omega)))) | (with_reducible refine bvia (unhide HB3) ?_ ?_; (focus (first | omega | (simp; done) | (simp; omega)))) | (with_reducible refine bvia (unhide HB4) ?_ ?_; (focus (first | omega | (simp; done) | (simp; omega)))) | (with_reducible refine bvia (unhide HB5) ?_ ?_; (focus (first | omega | (simp; done) | (simp; omega)))) | (with_reducible refine bvia (unhide HB6) ?_ ?_; (focus (first | omega | (simp; done) | (simp; omega))))))
set_option maxRecDepth 10000 in
theorem manWith_yes (ver base ps is sm : Int) (p : Option Addr) (n c : Nat) (s : ByteArray) (at_ : Nat) (k : Int) (w : World) (hs : s.size ≤ maxLen) (hk : k = at_) (ha : at_ ≤ 1000) (h : M.bz s at_ ≤ 8) (h' : M.bz s (at_ + 1) ≤ 8) :
    Calls Tryz.prog 177 #[manV ver base ps is sm (.slice p n c) false ⟨#[]⟩ ⟨#[]⟩, .string s, .int .i64 k] w fun e w' => e = .returned (.tuple #[manV ver base ps is sm (.slice p n c) true (M.mk (M.bz s at_) fun j => M.bz s (at_ + 2 + j)) (M.mk (M.bz s (at_ + 1)) fun j => M.bz s (at_ + 2 + M.bz s at_ + j)), .int .i64 (at_ + 2 + M.bz s at_ + M.bz s (at_ + 1) : Nat), .bool true]) ∧ Below w.heap.size w w' := by
  have HL := hide hs
  subst hk
  have hz1 : ¬ w.heap.size = w.heap.size + 1 := by omega
  go_enter Tryz.func177, Tryz.ntmps177
  go_wp2_with fail
  refine (wordByte_at s _ at_ _ (unhide HL) rfl).mono ?_
  rintro e w' ⟨rfl, rfl⟩
  generalize hq : M.bz s at_ = q at *
  have HQ := hide hq
  clear hq
  go_wp2_with fail
  refine (wordByte_at s _ (at_ + 1) _ (unhide HL) (by omega)).mono ?_
  rintro e w' ⟨rfl, rfl⟩
  generalize hr : M.bz s (at_ + 1) = r at *
  have HR := hide hr
  clear hr
  have h9 : ¬ (8 : Int) < (q : Int) := by omega
  have h10 : ¬ (8 : Int) < (r : Int) := by omega
  go_wp2_with fail
  refine (padded_any s (at_ + 2) q _ _ (unhide HL) (by omega) (by omega) (by omega)).mono ?_
  rintro e w1 ⟨rfl, hb1⟩
  obtain ⟨k1, k2, hs1, hb⟩ := blk2 hb1
  obtain ⟨hx1, hf1⟩ := block_facts k1
  have K1 := hide k1
  have K2 := hide k2
  have HB := hide hb
  clear hb hb1 k1 k2
  have l1 : w.heap.size < w1.heap.size := (by omega); have n1 : ¬ w.heap.size = w1.heap.size := (by omega)
  have l2 : w.heap.size + 1 < w1.heap.size := (by omega); have n2 : ¬ w.heap.size + 1 = w1.heap.size := (by omega)
  generalize hQ : (M.mk q fun j => M.bz s (at_ + 2 + j)) = Q at *
  have HQT := hide hQ
  clear hQ
  go_wp2_with fail
  refine (padded_any s (at_ + 2 + q) r _ _ (unhide HL) (by omega) (by omega) (by omega)).mono ?_
  rintro e w2 ⟨rfl, hb2⟩
  generalize hA : (M.mk r fun j => M.bz s (at_ + 2 + q + j)) = A at *
  have HAT := hide hA
  clear hA hx1 hf1
  have k1 : w2.heap[w.heap.size]? = some (.cells (manC ver base ps is sm (.slice p n c) true Q ⟨#[]⟩) 143 (0, 0)) := kept_block hb2 ((setCell_in (unhide K1) 7 _).trans rfl)
  have k2 := kept_block hb2 (set_block (unhide K2) (by omega))
  obtain ⟨hx1, hf1⟩ := block_facts k1
  obtain ⟨hx2, hf2⟩ := block_facts k2
  have hs2 := hb2.size
  have e2 : (w1.setCell ⟨w.heap.size, 7, none⟩ (.string Q)).heap.size = w1.heap.size := by simp
  rw [e2] at hs2
  have HB2 : Hid (Below w.heap.size w w2) := ((unhide HB).setCell (by simp) _).trans (hb2.mono (by rw [e2]; omega))
  clear hb2 k1 k2 K1 K2 HB e2
  have HB := HB2
  clear HB2
  have l3 : w.heap.size < w2.heap.size := (by omega); have n3 : ¬ w.heap.size = w2.heap.size := (by omega)
  have l4 : w.heap.size + 1 < w2.heap.size := (by omega); have n4 : ¬ w.heap.size + 1 = w2.heap.size := (by omega)
  go_wp2
  refine bodyPost_ret (v := .tuple #[manV ver base ps is sm (.slice p n c) true Q A, .int .i64 ((at_ : Int) + 2 + q + r), .bool true]) (by simp [results, Tryz.results177, go_sem, *]) rfl ⟨ret_man3 (by rw [HQ.out, HR.out, HQT.out, HAT.out]) (by rw [HQ.out, HR.out]; omega), ?_⟩
  repeat (first | with_reducible exact unhide HB | with_reducible exact Below.refl _ _ | with_reducible refine bdrew ?_ | (with_reducible refine brow ?_ ?_; (focus (first | omega | (simp; done) | (simp; omega)))) | (with_reducible refine bset ?_ ?_; (focus (first | omega | (simp; done) | (simp; omega)))) | (with_reducible refine balloc ?_ ?_; (focus (first | omega | (simp; done) | (simp; omega)))) | (with_reducible refine bvia (unhide HB1) ?_ ?_; (focus (first | omega | (simp; done) | (simp; omega)))) | (with_reducible refine bvia (unhide HB2) ?_ ?_; (focus (first | omega | (simp; done) | (simp; omega)))) | (with_reducible refine bvia (unhide HB3) ?_ ?_; (focus (first | omega | (simp; done) | (simp; omega)))) | (with_reducible refine bvia (unhide HB4) ?_ ?_; (focus (first | omega | (simp; done) | (simp; omega)))) | (with_reducible refine bvia (unhide HB5) ?_ ?_; (focus (first | omega | (simp; done) | (simp; omega)))) | (with_reducible refine bvia (unhide HB6) ?_ ?_; (focus (first | omega | (simp; done) | (simp; omega)))))
end Go.Proofs.YtjfmiomopfjecabGreat

/- A manifest is read. -/
namespace Go.Proofs.YtjfmiomopfjecabGreat
open Go.RowKit Go.Lib

def readV (g : Nat → Nat) (v : Value) : Value :=
  match M.sealX g with
  | some at_ => .tuple #[manOf g v, .int .i64 at_, .bool true]
  | none => .tuple #[manZ, .int .i64 0, .bool false]
theorem ret_some {g : Nat → Nat} {at_ : Nat} {v u : Value} {n : Int} (h : M.sealX g = some at_) (hu : u = manOf g v) (hn : n = at_) : Ending.returned (.tuple #[u, .int .i64 n, .bool true]) = .returned (readV g v) := by
  unfold readV
  rw [h, hu, hn]
theorem ret_none {g : Nat → Nat} {v : Value} (h : M.sealX g = none) : Ending.returned (.tuple #[manZ, .int .i64 0, .bool false]) = .returned (readV g v) := by
  unfold readV
  rw [h]
theorem ownsRow_base {w : World} {base base' : Nat} {e : TypeId} {size : Nat} {v : Value} {n : Nat} {xs : List Value} (h : w.ownsRow base' e size v n xs) (hle : base ≤ base') : w.ownsRow base e size v n xs := by
  refine ⟨h.1, ?_⟩
  rcases h.2 with hn | ⟨g, cap, cur, hv, hb, rest⟩
  · exact .inl hn
  · exact .inr ⟨g, cap, cur, hv, Nat.le_trans hle hb, rest⟩
section
variable {g : Nat → Nat} {p n c a0 a2 a6 : Nat} {v : Value}
theorem man_zero (hp : g 4 = p) (hn : g 5 = n) (hc : M.chunksN p = c) (h0 : M.numAt g 0 = a0) (h2 : M.numAt g 2 = a2) (h6 : M.numAt g 6 = a6) (ht : g (8 + 2 * c) ≠ 1) : manV a0 a2 p n a6 v false ⟨#[]⟩ ⟨#[]⟩ = manOf g v := by
  subst hp hn hc h0 h2 h6
  unfold manOf
  have e1 : M.exB g = false := decide_eq_false ht
  have e2 : M.exQ g = ⟨#[]⟩ := if_neg ht
  have e3 : M.exA g = ⟨#[]⟩ := if_neg ht
  rw [e1, e2, e3]
theorem man_one (hp : g 4 = p) (hn : g 5 = n) (hc : M.chunksN p = c) (h0 : M.numAt g 0 = a0) (h2 : M.numAt g 2 = a2) (h6 : M.numAt g 6 = a6) (ht : g (8 + 2 * c) = 1) : manV a0 a2 p n a6 v true (M.mk (g (9 + 2 * c)) fun j => g (9 + 2 * c + 2 + j)) (M.mk (g (9 + 2 * c + 1)) fun j => g (9 + 2 * c + 2 + g (9 + 2 * c) + j)) = manOf g v := by
  subst hp hn hc h0 h2 h6
  unfold manOf
  have e1 : M.exB g = true := decide_eq_true ht
  have e2 : M.exQ g = M.mk (g (9 + 2 * M.chunksN (g 4))) fun j => g (11 + 2 * M.chunksN (g 4) + j) := if_pos ht
  have e3 : M.exA g = M.mk (g (10 + 2 * M.chunksN (g 4))) fun j => g (11 + 2 * M.chunksN (g 4) + g (9 + 2 * M.chunksN (g 4)) + j) := if_pos ht
  rw [e1, e2, e3, show 10 + 2 * M.chunksN (g 4) = 9 + 2 * M.chunksN (g 4) + 1 from by omega, show 11 + 2 * M.chunksN (g 4) = 9 + 2 * M.chunksN (g 4) + 2 from by omega]
theorem seal_zero (hp : g 4 = p) (hn : g 5 = n) (hc : M.chunksN p = c) (h1 : 1 ≤ p) (h2 : p ≤ 96) (h3 : 1 ≤ n) (h4 : n ≤ 96) (ht : g (8 + 2 * c) = 0) : M.sealX g = some (9 + 2 * c) := by
  subst hp hn hc
  unfold M.sealX
  rw [if_neg (by omega), if_pos ht]
theorem seal_one (hp : g 4 = p) (hn : g 5 = n) (hc : M.chunksN p = c) (h1 : 1 ≤ p) (h2 : p ≤ 96) (h3 : 1 ≤ n) (h4 : n ≤ 96) (ht : g (8 + 2 * c) = 1) (hq : g (9 + 2 * c) ≤ 8) (ha : g (9 + 2 * c + 1) ≤ 8) : M.sealX g = some (9 + 2 * c + 2 + g (9 + 2 * c) + g (9 + 2 * c + 1)) := by
  subst hp hn hc
  unfold M.sealX
  rw [show 10 + 2 * M.chunksN (g 4) = 9 + 2 * M.chunksN (g 4) + 1 from by omega, if_neg (by omega), if_neg (by omega), if_pos ht, if_neg (by omega), show 11 + 2 * M.chunksN (g 4) = 9 + 2 * M.chunksN (g 4) + 2 from by omega]
theorem seal_not (hp : g 4 = p) (hn : g 5 = n) (hc : M.chunksN p = c) (h1 : 1 ≤ p) (h2 : p ≤ 96) (h3 : 1 ≤ n) (h4 : n ≤ 96) (ht : 1 < g (8 + 2 * c) ∨ g (8 + 2 * c) = 1 ∧ (8 < g (9 + 2 * c) ∨ 8 < g (9 + 2 * c + 1))) : M.sealX g = none := by
  subst hp hn hc
  unfold M.sealX
  rw [show 10 + 2 * M.chunksN (g 4) = 9 + 2 * M.chunksN (g 4) + 1 from by omega, if_neg (by omega), if_neg (by omega)]
  rcases ht with ht | ⟨ht, h⟩
  · rw [if_neg (by omega)]
  · rw [if_pos ht, if_pos h]
end
set_option maxRecDepth 10000 in
theorem manRead_bad (s : ByteArray) (w : World) (hs : s.size ≤ maxLen) (h : M.bz s 4 < 1 ∨ 96 < M.bz s 4 ∨ M.bz s 5 < 1 ∨ 96 < M.bz s 5) :
    Calls Tryz.prog 142 #[.string s] w fun e w' => e = .returned (.tuple #[manZ, .int .i64 0, .bool false]) ∧ Below w.heap.size w w' := by
  have HL := hide hs
  have c1 : M.bz s 4 < 1 ∨ 1 ≤ M.bz s 4 ∧ 96 < M.bz s 4 ∨ 1 ≤ M.bz s 4 ∧ M.bz s 4 ≤ 96 ∧ M.bz s 5 < 1 ∨ 1 ≤ M.bz s 4 ∧ M.bz s 4 ≤ 96 ∧ 1 ≤ M.bz s 5 ∧ 96 < M.bz s 5 := by omega
  have HC := hide c1
  clear h c1
  go_enter Tryz.func142, Tryz.ntmps142
  go_wp2_with fail
  refine (manHead_any s _ (unhide HL)).mono ?_
  rintro e w1 ⟨rfl, hb1⟩
  obtain ⟨k1, hs1, hb⟩ := blk1 hb1
  obtain ⟨hx1, hf1⟩ := block_facts k1
  have HB := hide hb
  clear hb hb1 k1
  have l1 : w.heap.size < w1.heap.size := (by omega); have n1 : ¬ w.heap.size = w1.heap.size := (by omega)
  generalize M.bz s 4 = p at *
  generalize M.bz s 5 = n at *
  generalize M.numAt (M.bz s) 0 = a0 at *
  generalize M.numAt (M.bz s) 2 = a2 at *
  generalize M.numAt (M.bz s) 6 = a6 at *
  rcases unhide HC with h | ⟨h1, h2⟩ | ⟨h1, h2, h3⟩ | ⟨h1, h2, h3, h4⟩
  · have g1 : (p : Int) < 1 := by omega
    clear HC
    go_wp2
    refine bodyPost_ret (v := .tuple #[manZ, .int .i64 0, .bool false]) (by simp [results, Tryz.results142, go_sem, *]) rfl ⟨rfl, ?_⟩
    repeat (first | with_reducible exact unhide HB | with_reducible exact Below.refl _ _ | with_reducible refine bdrew ?_ | (with_reducible refine brow ?_ ?_; (focus (first | omega | (simp; done) | (simp; omega)))) | (with_reducible refine bset ?_ ?_; (focus (first | omega | (simp; done) | (simp; omega)))) | (with_reducible refine balloc ?_ ?_; (focus (first | omega | (simp; done) | (simp; omega)))) | (with_reducible refine bvia (unhide HB1) ?_ ?_; (focus (first | omega | (simp; done) | (simp; omega)))) | (with_reducible refine bvia (unhide HB2) ?_ ?_; (focus (first | omega | (simp; done) | (simp; omega)))) | (with_reducible refine bvia (unhide HB3) ?_ ?_; (focus (first | omega | (simp; done) | (simp; omega)))) | (with_reducible refine bvia (unhide HB4) ?_ ?_; (focus (first | omega | (simp; done) | (simp; omega)))) | (with_reducible refine bvia (unhide HB5) ?_ ?_; (focus (first | omega | (simp; done) | (simp; omega)))) | (with_reducible refine bvia (unhide HB6) ?_ ?_; (focus (first | omega | (simp; done) | (simp; omega)))))
  · have g1 : ¬ (p : Int) < 1 := by omega
    have g2 : (96 : Int) < (p : Int) := by omega
    clear HC
    go_wp2
    refine bodyPost_ret (v := .tuple #[manZ, .int .i64 0, .bool false]) (by simp [results, Tryz.results142, go_sem, *]) rfl ⟨rfl, ?_⟩
    repeat (first | with_reducible exact unhide HB | with_reducible exact Below.refl _ _ | with_reducible refine bdrew ?_ | (with_reducible refine brow ?_ ?_; (focus (first | omega | (simp; done) | (simp; omega)))) | (with_reducible refine bset ?_ ?_; (focus (first | omega | (simp; done) | (simp; omega)))) | (with_reducible refine balloc ?_ ?_; (focus (first | omega | (simp; done) | (simp; omega)))) | (with_reducible refine bvia (unhide HB1) ?_ ?_; (focus (first | omega | (simp; done) | (simp; omega)))) | (with_reducible refine bvia (unhide HB2) ?_ ?_; (focus (first | omega | (simp; done) | (simp; omega)))) | (with_reducible refine bvia (unhide HB3) ?_ ?_; (focus (first | omega | (simp; done) | (simp; omega)))) | (with_reducible refine bvia (unhide HB4) ?_ ?_; (focus (first | omega | (simp; done) | (simp; omega)))) | (with_reducible refine bvia (unhide HB5) ?_ ?_; (focus (first | omega | (simp; done) | (simp; omega)))) | (with_reducible refine bvia (unhide HB6) ?_ ?_; (focus (first | omega | (simp; done) | (simp; omega)))))
  · have g1 : ¬ (p : Int) < 1 := by omega
    have g2 : ¬ (96 : Int) < (p : Int) := by omega
    have g3 : (n : Int) < 1 := by omega
    clear HC
    go_wp2
    refine bodyPost_ret (v := .tuple #[manZ, .int .i64 0, .bool false]) (by simp [results, Tryz.results142, go_sem, *]) rfl ⟨rfl, ?_⟩
    repeat (first | with_reducible exact unhide HB | with_reducible exact Below.refl _ _ | with_reducible refine bdrew ?_ | (with_reducible refine brow ?_ ?_; (focus (first | omega | (simp; done) | (simp; omega)))) | (with_reducible refine bset ?_ ?_; (focus (first | omega | (simp; done) | (simp; omega)))) | (with_reducible refine balloc ?_ ?_; (focus (first | omega | (simp; done) | (simp; omega)))) | (with_reducible refine bvia (unhide HB1) ?_ ?_; (focus (first | omega | (simp; done) | (simp; omega)))) | (with_reducible refine bvia (unhide HB2) ?_ ?_; (focus (first | omega | (simp; done) | (simp; omega)))) | (with_reducible refine bvia (unhide HB3) ?_ ?_; (focus (first | omega | (simp; done) | (simp; omega)))) | (with_reducible refine bvia (unhide HB4) ?_ ?_; (focus (first | omega | (simp; done) | (simp; omega)))) | (with_reducible refine bvia (unhide HB5) ?_ ?_; (focus (first | omega | (simp; done) | (simp; omega)))) | (with_reducible refine bvia (unhide HB6) ?_ ?_; (focus (first | omega | (simp; done) | (simp; omega)))))
  · have g1 : ¬ (p : Int) < 1 := by omega
    have g2 : ¬ (96 : Int) < (p : Int) := by omega
    have g3 : ¬ (n : Int) < 1 := by omega
    have g4 : (96 : Int) < (n : Int) := by omega
    clear HC
    go_wp2
    refine bodyPost_ret (v := .tuple #[manZ, .int .i64 0, .bool false]) (by simp [results, Tryz.results142, go_sem, *]) rfl ⟨rfl, ?_⟩
    repeat (first | with_reducible exact unhide HB | with_reducible exact Below.refl _ _ | with_reducible refine bdrew ?_ | (with_reducible refine brow ?_ ?_; (focus (first | omega | (simp; done) | (simp; omega)))) | (with_reducible refine bset ?_ ?_; (focus (first | omega | (simp; done) | (simp; omega)))) | (with_reducible refine balloc ?_ ?_; (focus (first | omega | (simp; done) | (simp; omega)))) | (with_reducible refine bvia (unhide HB1) ?_ ?_; (focus (first | omega | (simp; done) | (simp; omega)))) | (with_reducible refine bvia (unhide HB2) ?_ ?_; (focus (first | omega | (simp; done) | (simp; omega)))) | (with_reducible refine bvia (unhide HB3) ?_ ?_; (focus (first | omega | (simp; done) | (simp; omega)))) | (with_reducible refine bvia (unhide HB4) ?_ ?_; (focus (first | omega | (simp; done) | (simp; omega)))) | (with_reducible refine bvia (unhide HB5) ?_ ?_; (focus (first | omega | (simp; done) | (simp; omega)))) | (with_reducible refine bvia (unhide HB6) ?_ ?_; (focus (first | omega | (simp; done) | (simp; omega)))))
set_option maxRecDepth 10000 in
set_option maxHeartbeats 2000000 in
theorem manRead_good (s : ByteArray) (w : World) (hs : s.size ≤ maxLen) (h1 : 1 ≤ M.bz s 4) (h2 : M.bz s 4 ≤ 96) (h3 : 1 ≤ M.bz s 5) (h4 : M.bz s 5 ≤ 96) :
    Calls Tryz.prog 142 #[.string s] w fun e w' => ∃ v, e = .returned (readV (M.bz s) v) ∧ w'.ownsRow (w.heap.size + 1) 3 1 v (M.chunksN (M.bz s 4)) (intCells (M.sumsL (M.bz s) (M.chunksN (M.bz s 4)))) ∧ Below w.heap.size w w' := by
  have HL := hide hs
  have hc6 : M.chunksN (M.bz s 4) ≤ 6 := by unfold M.chunksN; omega
  go_enter Tryz.func142, Tryz.ntmps142
  go_wp2_with fail
  refine (manHead_any s _ (unhide HL)).mono ?_
  rintro e w1 ⟨rfl, hb1⟩
  obtain ⟨k1, hs1, hb⟩ := blk1 hb1
  have K1 := hide k1
  have HB := hide hb
  clear hb hb1 k1
  have l1 : w.heap.size < w1.heap.size := (by omega); have n1 : ¬ w.heap.size = w1.heap.size := (by omega)
  generalize hp : M.bz s 4 = p at *
  generalize hn : M.bz s 5 = n at *
  generalize hc : M.chunksN p = c at *
  generalize hA0 : M.numAt (M.bz s) 0 = a0 at *
  generalize hA2 : M.numAt (M.bz s) 2 = a2 at *
  generalize hA6 : M.numAt (M.bz s) 6 = a6 at *
  have HP := hide hp
  have HN := hide hn
  have HC := hide hc
  have HA0 := hide hA0
  have HA2 := hide hA2
  have HA6 := hide hA6
  clear hp hn hc hA0 hA2 hA6
  have g1 : ¬ (p : Int) < 1 := by omega
  have g2 : ¬ (96 : Int) < (p : Int) := by omega
  have g3 : ¬ (n : Int) < 1 := by omega
  have g4 : ¬ (96 : Int) < (n : Int) := by omega
  go_wp2_with fail
  go_loopw [6, 7] (fun at' i' wr => ∃ (k : Nat) (v : Value), k ≤ c ∧ i' = .int .i64 k ∧ at' = .int .i64 (8 + 2 * (k : Int)) ∧ wr.heap[w.heap.size]? = some (.cells (manC 0 0 0 0 0 (.slice none 0 0) false ⟨#[]⟩ ⟨#[]⟩) 143 (0, 0)) ∧ wr.heap[w1.heap.size]? = some (.cells (manC a0 a2 p n a6 v false ⟨#[]⟩ ⟨#[]⟩) 143 (0, 0)) ∧ wr.ownsRow (w1.heap.size + 1) 3 1 v k (intCells (M.sumsL (M.bz s) k)) ∧ Below w.heap.size w wr) (fun _ i' _ => c - (intOf i').toNat)
  case atStart => exact ⟨0, .slice none 0 0, by omega, rfl, rfl, alloc_block (unhide K1) _, last_block _ _ rfl, World.ownsRow_nil _ _ _ _, (unhide HB).alloc (by omega) _⟩
  case round =>
    obtain ⟨k, v, hk, rfl, rfl, k1, k2, hown, hbel⟩ := hrel
    have HLen := hide (M.sumsL_length (M.bz s) k)
    obtain ⟨ao, cap, rfl, -⟩ := (holdsRow_own hown).shape
    obtain ⟨hx2, hf2⟩ := block_facts k2
    have hsz : w1.heap.size < wr.heap.size := (Array.getElem?_eq_some_iff.1 k2).1
    have K1 := hide k1
    have K2 := hide k2
    have HO := hide hown
    have HB2 := hide hbel
    clear k1 k2 hown hbel
    go_wp2_with fail
    refine (manChunks_any _ _ _ _ p _ _ _ _ _ (by omega)).mono ?_
    rintro e w2 ⟨rfl, hb2⟩
    rw [HC.out]
    clear hx2 hf2
    have k1 := kept_block hb2 (unhide K1)
    have k2 := kept_block hb2 (unhide K2)
    have hown := ownsRow_below (unhide HO) hb2
    have hbel := bvia hb2 (by omega) (unhide HB2)
    have hs2 := hb2.size
    clear K1 K2 HO HB2 hb2
    obtain ⟨hx2, hf2⟩ := block_facts k2
    have hsz2 : w1.heap.size < w2.heap.size := by omega
    have K1 := hide k1
    have K2 := hide k2
    have HO := hide hown
    have HB2 := hide hbel
    clear k1 k2 hown hbel
    by_cases hlt : k < c
    · have HS := hide (M.sumsL_succ (M.bz s) k)
      have hx5 := hx2 5
      go_wp2_with fail
      refine (wordNumber_any s _ (8 + 2 * k) _ (unhide HL) (by omega) (by omega)).mono ?_
      rintro e w' ⟨rfl, rfl⟩
      generalize hy : M.bz s (8 + 2 * k) * 256 + M.bz s (8 + 2 * k + 1) = y at *
      have HY : Hid (M.numAt (M.bz s) (8 + 2 * k) = y) := hy
      clear hy
      clear hx5
      go_wp2_with (at_builtin; (refine append_int _ rfl (.tmp 40) (.tmp 42) rfl (w1.heap.size + 1) (.slice ao k cap) (M.sumsL (M.bz s) k) y rfl rfl (by rw [HLen.out]; exact unhide HO) (by rw [HLen.out]; omega) (by omega) ?_); intro v' w3 hown3 hbel3 hsz3; have HO3 := hide hown3; obtain ⟨ao', cap', hv', -⟩ := (holdsRow_own hown3).shape; subst hv'; have HB3 := hide (hbel3 _ (Below.refl _ _)); obtain ⟨hx3, hf3⟩ := block_facts (((unhide HB3).block w1.heap.size (by omega)).trans (unhide K2)); clear hown3 hbel3)
      have hlen3 : Hid ((M.sumsL (M.bz s) k ++ [(y : Int)]).length = k + 1) := by show _ = _; rw [List.length_append, HLen.out]; rfl
      rw [HLen.out]
      have HR3 : Hid (w3.ownsRow (w1.heap.size + 1) 3 1 (.slice ao' (k + 1) cap') (k + 1) (intCells (M.sumsL (M.bz s) (k + 1)))) := by
        show World.ownsRow _ _ _ _ _ _ _
        rw [HS.out, HY.out]
        have := unhide HO3
        rw [hlen3.out] at this
        exact this
      refine ⟨⟨k + 1, .slice ao' (k + 1) cap', by omega, by go_num, congrArg (Value.int .i64) (by omega), ?_, ?_, ?_, ?_⟩, by simp [intOf]; omega⟩
      · exact set_block (((unhide HB3).block _ (by omega)).trans (unhide K1)) (by omega)
      · exact (setCell_in (((unhide HB3).block _ (by omega)).trans (unhide K2)) 5 _).trans rfl
      · exact ownsRow_setCell_below (unhide HR3) (a := ⟨w1.heap.size, 5, none⟩) (by show w1.heap.size < _; omega) _
      · exact ((unhide HB2).trans ((unhide HB3).mono (by omega))).setCell (by show w.heap.size ≤ w1.heap.size; omega) _
    · have hkc : k = c := by omega
      subst hkc
      go_wp2_with fail
      refine (wordByte_at s _ (8 + 2 * k) _ (unhide HL) (by omega)).mono ?_
      rintro e w' ⟨rfl, rfl⟩
      obtain ⟨hx1, hf1⟩ := block_facts (unhide K1)
      have hb := M.bz_lt s (8 + 2 * k)
      generalize hT : M.bz s (8 + 2 * k) = tg at *
      have HT := hide hT
      clear hT
      have l2 : w.heap.size < w2.heap.size := (by omega); have n2 : ¬ w.heap.size = w2.heap.size := (by omega)
      have HOw : Hid (w2.ownsRow (w.heap.size + 1) 3 1 (.slice ao k cap) k (intCells (M.sumsL (M.bz s) k))) := ownsRow_base (unhide HO) (by omega)
      by_cases ht0 : tg = 0
      · subst ht0
        have HX := hide (seal_zero HP.out HN.out HC.out h1 h2 h3 h4 HT.out)
        have HM := hide (man_zero (v := .slice ao k cap) HP.out HN.out HC.out HA0.out HA2.out HA6.out (by rw [HT.out]; decide))
        have HB3 : Hid (Below w.heap.size w w2) := unhide HB2
        clear HB
        have HB := HB3
        go_wp2
        refine bodyPost_ret (v := .tuple #[manV a0 a2 p n a6 (.slice ao k cap) false ⟨#[]⟩ ⟨#[]⟩, .int .i64 (8 + 2 * (k : Int) + 1), .bool true]) (by simp [results, Tryz.results142, go_sem, hx1]) rfl ⟨.slice ao k cap, ret_some HX.out HM.out (by omega), ?_, ?_⟩
        · rw [HP.out, HC.out]
          iterate 9 refine ownsRow_setCell_below ?_ (by show w.heap.size < _; omega) _
          exact unhide HOw
        · repeat (first | with_reducible exact unhide HB | with_reducible exact Below.refl _ _ | with_reducible refine bdrew ?_ | (with_reducible refine brow ?_ ?_; (focus (first | omega | (simp; done) | (simp; omega)))) | (with_reducible refine bset ?_ ?_; (focus (first | omega | (simp; done) | (simp; omega)))) | (with_reducible refine balloc ?_ ?_; (focus (first | omega | (simp; done) | (simp; omega)))) | (with_reducible refine bvia (unhide HB1) ?_ ?_; (focus (first | omega | (simp; done) | (simp; omega)))) | (with_reducible refine bvia (unhide HB2) ?_ ?_; (focus (first | omega | (simp; done) | (simp; omega)))) | (with_reducible refine bvia (unhide HB3) ?_ ?_; (focus (first | omega | (simp; done) | (simp; omega)))) | (with_reducible refine bvia (unhide HB4) ?_ ?_; (focus (first | omega | (simp; done) | (simp; omega)))) | (with_reducible refine bvia (unhide HB5) ?_ ?_; (focus (first | omega | (simp; done) | (simp; omega)))) | (with_reducible refine bvia (unhide HB6) ?_ ?_; (focus (first | omega | (simp; done) | (simp; omega)))))
      · have e0 : ¬ (tg : Int) = 0 := by omega
        by_cases ht1 : tg = 1
        · subst ht1
          by_cases hqa : M.bz s (9 + 2 * k) ≤ 8 ∧ M.bz s (9 + 2 * k + 1) ≤ 8
          · have HX := hide (seal_one HP.out HN.out HC.out h1 h2 h3 h4 HT.out hqa.1 hqa.2)
            have HM := hide (man_one (v := .slice ao k cap) HP.out HN.out HC.out HA0.out HA2.out HA6.out HT.out)
            have HQ := hide hqa
            clear hqa
            go_wp2_with fail
            refine (manWith_yes _ _ _ _ _ ao k cap s (9 + 2 * k) _ _ (unhide HL) (by omega) (by omega) (unhide HQ).1 (unhide HQ).2).mono ?_
            rintro e w3 ⟨rfl, hb3⟩
            rw [HM.out]
            have k1 := kept_block hb3 (unhide K1)
            clear hx1 hf1 hx2 hf2
            obtain ⟨hx1, hf1⟩ := block_facts k1
            have HOw3 := hide (ownsRow_below (unhide HOw) hb3)
            have hs3 := hb3.size
            have HB3 : Hid (Below w.heap.size w w3) := bvia hb3 (by omega) (unhide HB2)
            clear HB hb3 k1
            have HB := HB3
            clear HB3
            have l3 : w.heap.size < w3.heap.size := (by omega); have n3 : ¬ w.heap.size = w3.heap.size := (by omega)
            generalize hat : 9 + 2 * k + 2 + M.bz s (9 + 2 * k) + M.bz s (9 + 2 * k + 1) = at_ at *
            clear hat
            go_wp2
            refine bodyPost_ret (v := .tuple #[manOf (M.bz s) (.slice ao k cap), .int .i64 at_, .bool true]) (by simp [results, Tryz.results142, go_sem, hx1]) rfl ⟨.slice ao k cap, ret_some HX.out rfl rfl, ?_, ?_⟩
            · rw [HP.out, HC.out]
              iterate 9 refine ownsRow_setCell_below ?_ (by show w.heap.size < _; omega) _
              exact unhide HOw3
            · repeat (first | with_reducible exact unhide HB | with_reducible exact Below.refl _ _ | with_reducible refine bdrew ?_ | (with_reducible refine brow ?_ ?_; (focus (first | omega | (simp; done) | (simp; omega)))) | (with_reducible refine bset ?_ ?_; (focus (first | omega | (simp; done) | (simp; omega)))) | (with_reducible refine balloc ?_ ?_; (focus (first | omega | (simp; done) | (simp; omega)))) | (with_reducible refine bvia (unhide HB1) ?_ ?_; (focus (first | omega | (simp; done) | (simp; omega)))) | (with_reducible refine bvia (unhide HB2) ?_ ?_; (focus (first | omega | (simp; done) | (simp; omega)))) | (with_reducible refine bvia (unhide HB3) ?_ ?_; (focus (first | omega | (simp; done) | (simp; omega)))) | (with_reducible refine bvia (unhide HB4) ?_ ?_; (focus (first | omega | (simp; done) | (simp; omega)))) | (with_reducible refine bvia (unhide HB5) ?_ ?_; (focus (first | omega | (simp; done) | (simp; omega)))) | (with_reducible refine bvia (unhide HB6) ?_ ?_; (focus (first | omega | (simp; done) | (simp; omega)))))
          · have HX := hide (seal_not HP.out HN.out HC.out h1 h2 h3 h4 (.inr ⟨HT.out, by omega⟩))
            have HQ : Hid (8 < M.bz s (9 + 2 * k) ∨ 8 < M.bz s (9 + 2 * k + 1)) := by show _ ∨ _; omega
            clear hqa
            go_wp2_with fail
            refine (manWith_no _ _ _ _ _ ao k cap s (9 + 2 * k) _ _ (unhide HL) (by omega) (by omega) (unhide HQ)).mono ?_
            rintro e w3 ⟨rfl, hb3⟩
            have k1 := kept_block hb3 (unhide K1)
            clear hx1 hf1 hx2 hf2
            obtain ⟨hx1, hf1⟩ := block_facts k1
            have HOw3 := hide (ownsRow_below (unhide HOw) hb3)
            have hs3 := hb3.size
            have HB3 : Hid (Below w.heap.size w w3) := bvia hb3 (by omega) (unhide HB2)
            clear HB hb3 k1
            have HB := HB3
            clear HB3
            have l3 : w.heap.size < w3.heap.size := (by omega); have n3 : ¬ w.heap.size = w3.heap.size := (by omega)
            go_wp2
            refine bodyPost_ret (v := .tuple #[manZ, .int .i64 0, .bool false]) (by simp [results, Tryz.results142, go_sem, hx1]) rfl ⟨.slice ao k cap, ret_none HX.out, ?_, ?_⟩
            · rw [HP.out, HC.out]
              iterate 9 refine ownsRow_setCell_below ?_ (by show w.heap.size < _; omega) _
              exact unhide HOw3
            · repeat (first | with_reducible exact unhide HB | with_reducible exact Below.refl _ _ | with_reducible refine bdrew ?_ | (with_reducible refine brow ?_ ?_; (focus (first | omega | (simp; done) | (simp; omega)))) | (with_reducible refine bset ?_ ?_; (focus (first | omega | (simp; done) | (simp; omega)))) | (with_reducible refine balloc ?_ ?_; (focus (first | omega | (simp; done) | (simp; omega)))) | (with_reducible refine bvia (unhide HB1) ?_ ?_; (focus (first | omega | (simp; done) | (simp; omega)))) | (with_reducible refine bvia (unhide HB2) ?_ ?_; (focus (first | omega | (simp; done) | (simp; omega)))) | (with_reducible refine bvia (unhide HB3) ?_ ?_; (focus (first | omega | (simp; done) | (simp; omega)))) | (with_reducible refine bvia (unhide HB4) ?_ ?_; (focus (first | omega | (simp; done) | (simp; omega)))) | (with_reducible refine bvia (unhide HB5) ?_ ?_; (focus (first | omega | (simp; done) | (simp; omega)))) | (with_reducible refine bvia (unhide HB6) ?_ ?_; (focus (first | omega | (simp; done) | (simp; omega)))))
        · have e1 : ¬ (tg : Int) = 1 := by omega
          have HX := hide (seal_not HP.out HN.out HC.out h1 h2 h3 h4 (.inl (by rw [HT.out]; omega)))
          clear HB
          have HB := HB2
          go_wp2
          refine bodyPost_ret (v := .tuple #[manZ, .int .i64 0, .bool false]) (by simp [results, Tryz.results142, go_sem, hx1]) rfl ⟨.slice ao k cap, ret_none HX.out, ?_, ?_⟩
          · rw [HP.out, HC.out]
            iterate 9 refine ownsRow_setCell_below ?_ (by show w.heap.size < _; omega) _
            exact unhide HOw
          · repeat (first | with_reducible exact unhide HB | with_reducible exact Below.refl _ _ | with_reducible refine bdrew ?_ | (with_reducible refine brow ?_ ?_; (focus (first | omega | (simp; done) | (simp; omega)))) | (with_reducible refine bset ?_ ?_; (focus (first | omega | (simp; done) | (simp; omega)))) | (with_reducible refine balloc ?_ ?_; (focus (first | omega | (simp; done) | (simp; omega)))) | (with_reducible refine bvia (unhide HB1) ?_ ?_; (focus (first | omega | (simp; done) | (simp; omega)))) | (with_reducible refine bvia (unhide HB2) ?_ ?_; (focus (first | omega | (simp; done) | (simp; omega)))) | (with_reducible refine bvia (unhide HB3) ?_ ?_; (focus (first | omega | (simp; done) | (simp; omega)))) | (with_reducible refine bvia (unhide HB4) ?_ ?_; (focus (first | omega | (simp; done) | (simp; omega)))) | (with_reducible refine bvia (unhide HB5) ?_ ?_; (focus (first | omega | (simp; done) | (simp; omega)))) | (with_reducible refine bvia (unhide HB6) ?_ ?_; (focus (first | omega | (simp; done) | (simp; omega)))))
end Go.Proofs.YtjfmiomopfjecabGreat

/- Manifests: parsed, taken from the flash, asked. -/
namespace Go.Proofs.YtjfmiomopfjecabGreat
open Go.RowKit Go.Lib

theorem manRead_any (s : ByteArray) (w : World) (hs : s.size ≤ maxLen) :
    Calls Tryz.prog 142 #[.string s] w fun e w' => ∃ ao n cap, e = .returned (readV (M.bz s) (.slice ao n cap)) ∧ (∀ at_, M.sealX (M.bz s) = some at_ → n = M.chunksN (M.bz s 4) ∧ w'.ownsRow (w.heap.size + 1) 3 1 (.slice ao n cap) n (intCells (M.sumsL (M.bz s) n))) ∧ Below w.heap.size w w' := by
  by_cases h : M.bz s 4 < 1 ∨ 96 < M.bz s 4 ∨ M.bz s 5 < 1 ∨ 96 < M.bz s 5
  · have hx : M.sealX (M.bz s) = none := if_pos h
    refine (manRead_bad s w hs h).mono ?_
    rintro e w' ⟨rfl, hb⟩
    exact ⟨none, 0, 0, ret_none hx, (fun at_ e => by rw [hx] at e; cases e), hb⟩
  · refine (manRead_good s w hs (by omega) (by omega) (by omega) (by omega)).mono ?_
    rintro e w' ⟨v, rfl, hown, hb⟩
    obtain ⟨ao, cap, rfl, -⟩ := (holdsRow_own hown).shape
    exact ⟨ao, _, cap, rfl, fun at_ _ => ⟨rfl, hown⟩, hb⟩
theorem text_inj {a b : ByteArray} (h : a.toList = b.toList) : a = b := by
  rw [ByteArray.toList_eq, ByteArray.toList_eq] at h
  exact ByteArray.ext (Array.toList_inj.1 h)
theorem readV_some {g : Nat → Nat} {at_ : Nat} {v : Value} (h : M.sealX g = some at_) : readV g v = .tuple #[manOf g v, .int .i64 at_, .bool true] := by unfold readV; rw [h]
theorem readV_none {g : Nat → Nat} {v : Value} (h : M.sealX g = none) : readV g v = .tuple #[manZ, .int .i64 0, .bool false] := by unfold readV; rw [h]
set_option maxRecDepth 10000 in
theorem manStored_any (s : ByteArray) (at_ : Nat) (w : World) (hs : s.size ≤ maxLen) (h : M.sealX (M.bz s) = some at_) :
    Calls Tryz.prog 115 #[.string s] w fun e w' => ∃ ao cap, e = .returned (manOf (M.bz s) (.slice ao (M.chunksN (M.bz s 4)) cap)) ∧ w'.ownsRow (w.heap.size + 1) 3 1 (.slice ao (M.chunksN (M.bz s 4)) cap) (M.chunksN (M.bz s 4)) (intCells (M.sumsL (M.bz s) (M.chunksN (M.bz s 4)))) ∧ Below w.heap.size w w' := by
  have HL := hide hs
  have HX := hide h
  clear h
  go_enter Tryz.func115, Tryz.ntmps115
  go_wp2_with fail
  refine (manRead_any s _ (unhide HL)).mono ?_
  rintro e w1 ⟨ao, n, cap, rfl, ho, hb1⟩
  obtain ⟨rfl, hown⟩ := ho at_ HX.out
  rw [readV_some HX.out]
  obtain ⟨k1, hs1, hb⟩ := blk1 hb1
  obtain ⟨hx1, hf1⟩ := block_facts k1
  have HO := hide (ownsRow_base hown (show w.heap.size + 1 ≤ _ by simp))
  have HB := hide hb
  clear hb hb1 k1 hown ho
  have l1 : w.heap.size < w1.heap.size := (by omega); have n1 : ¬ w.heap.size = w1.heap.size := (by omega)
  generalize hN : M.chunksN (M.bz s 4) = n at *
  have HN := hide hN
  clear hN
  go_wp2
  refine bodyPost_ret (v := manOf (M.bz s) (.slice ao n cap)) (by simp [results, Tryz.results115, go_sem, hx1, l1]) rfl ?_
  rw [HN.out]
  refine ⟨ao, cap, rfl, ?_, ?_⟩
  · refine World.ownsRow.alloc ?_ _
    iterate 9 refine ownsRow_setCell_below ?_ (by show w.heap.size < _; omega) _
    exact unhide HO
  · repeat (first | with_reducible exact unhide HB | with_reducible exact Below.refl _ _ | with_reducible refine bdrew ?_ | (with_reducible refine brow ?_ ?_; (focus (first | omega | (simp; done) | (simp; omega)))) | (with_reducible refine bset ?_ ?_; (focus (first | omega | (simp; done) | (simp; omega)))) | (with_reducible refine balloc ?_ ?_; (focus (first | omega | (simp; done) | (simp; omega)))) | (with_reducible refine bvia (unhide HB1) ?_ ?_; (focus (first | omega | (simp; done) | (simp; omega)))) | (with_reducible refine bvia (unhide HB2) ?_ ?_; (focus (first | omega | (simp; done) | (simp; omega)))) | (with_reducible refine bvia (unhide HB3) ?_ ?_; (focus (first | omega | (simp; done) | (simp; omega)))) | (with_reducible refine bvia (unhide HB4) ?_ ?_; (focus (first | omega | (simp; done) | (simp; omega)))) | (with_reducible refine bvia (unhide HB5) ?_ ?_; (focus (first | omega | (simp; done) | (simp; omega)))) | (with_reducible refine bvia (unhide HB6) ?_ ?_; (focus (first | omega | (simp; done) | (simp; omega)))))
set_option maxRecDepth 10000 in
set_option maxHeartbeats 1000000 in
theorem manParse_yes (key s : ByteArray) (w : World) (hk : key.size ≤ 16) (hs : s.size ≤ maxLen) (h : M.isMan key s = true) :
    Calls Tryz.prog 163 #[.string key, .string s] w fun e w' => ∃ ao n cap, e = .returned (.tuple #[manOf (M.bz s) (.slice ao n cap), .bool true]) ∧ Below w.heap.size w w' := by
  have HL := hide hs
  unfold M.isMan at h
  cases hX : M.sealX (M.bz s) with
  | none => rw [hX] at h; cases h
  | some at_ =>
    rw [hX] at h
    simp only [Bool.and_eq_true, decide_eq_true_eq] at h
    obtain ⟨hsz, hcr⟩ := h
    have hle := M.sealX_le hX
    have hat : at_ ≤ 39 := hle.1
    have HX := hide hX
    have HCR := hide hcr
    have HSZ := hide hsz
    have hsi : (at_ : Int) + 2 = (s.size : Int) := by omega
    have HSI := hide hsi
    have hne : ((at_ : Int) + 2 != (s.size : Int)) = false := by rw [hsi]; simp
    clear hX hcr hsz hle hsi
    go_enter Tryz.func163, Tryz.ntmps163
    go_wp2_with fail
    refine (manRead_any s _ (unhide HL)).mono ?_
    rintro e w1 ⟨ao, n, cap, rfl, -, hb1⟩
    rw [readV_some HX.out]
    obtain ⟨k1, hs1, hb⟩ := blk1 hb1
    have K1 := hide k1
    have HB := hide hb
    clear hb hb1 k1
    have l1 : w.heap.size < w1.heap.size := (by omega); have n1 : ¬ w.heap.size = w1.heap.size := (by omega)
    go_wp2_with fail
    refine (padded_any s 0 at_ _ _ (unhide HL) (by omega) (by omega) rfl).mono ?_
    rintro e w2 ⟨rfl, hb2⟩
    have HP : Hid ((M.mk at_ fun j => M.bz s (0 + j)) = M.mk at_ (M.bz s)) := by show _ = _; congr 1; funext j; rw [Nat.zero_add]
    rw [HP.out]
    have HPS : Hid ((M.mk at_ (M.bz s)).size = at_) := M.mk_size _ _
    have hps : (M.mk at_ (M.bz s)).size ≤ 39 := by rw [M.mk_size]; omega
    generalize M.mk at_ (M.bz s) = P at *
    have k1 := kept_block hb2 (alloc_block (unhide K1) _)
    obtain ⟨k2, hs2, hb⟩ := blk1 hb2
    obtain ⟨hx1, hf1⟩ := block_facts k1
    obtain ⟨hx2, hf2⟩ := block_facts k2
    have HB2 : Hid (Below w.heap.size w w2) := (unhide HB).trans (hb.mono (by omega))
    clear hb hb2 k1 k2 K1 HP HPS HB
    have HB := HB2
    clear HB2
    have l2 : w.heap.size < w2.heap.size := (by omega); have n2 : ¬ w.heap.size = w2.heap.size := (by omega)
    have l3 : w1.heap.size < w2.heap.size := (by omega); have n3 : ¬ w1.heap.size = w2.heap.size := (by omega)
    go_wp2_with fail
    refine (wordNumber_any s _ at_ _ (unhide HL) rfl (by omega)).mono ?_
    rintro e w' ⟨rfl, rfl⟩
    generalize M.bz s at_ * 256 + M.bz s (at_ + 1) = D at *
    go_wp2_with fail
    refine (sumOf_any (key ++ P) _ (by rw [ByteArray.size_append]; unfold maxLen; omega)).mono ?_
    rintro e w' ⟨rfl, rfl⟩
    generalize M.crc (key ++ P).data.toList = C at *
    have hbc : ((C : Int) != (D : Int)) = false := by have := HCR.out; simp; omega
    go_wp2
    refine bodyPost_ret (v := .tuple #[manOf (M.bz s) (.slice ao n cap), .bool true]) (by simp [results, Tryz.results163, go_sem, hx1]) rfl ⟨ao, n, cap, rfl, ?_⟩
    repeat (first | with_reducible exact unhide HB | with_reducible exact Below.refl _ _ | with_reducible refine bdrew ?_ | (with_reducible refine brow ?_ ?_; (focus (first | omega | (simp; done) | (simp; omega)))) | (with_reducible refine bset ?_ ?_; (focus (first | omega | (simp; done) | (simp; omega)))) | (with_reducible refine balloc ?_ ?_; (focus (first | omega | (simp; done) | (simp; omega)))) | (with_reducible refine bvia (unhide HB1) ?_ ?_; (focus (first | omega | (simp; done) | (simp; omega)))) | (with_reducible refine bvia (unhide HB2) ?_ ?_; (focus (first | omega | (simp; done) | (simp; omega)))) | (with_reducible refine bvia (unhide HB3) ?_ ?_; (focus (first | omega | (simp; done) | (simp; omega)))) | (with_reducible refine bvia (unhide HB4) ?_ ?_; (focus (first | omega | (simp; done) | (simp; omega)))) | (with_reducible refine bvia (unhide HB5) ?_ ?_; (focus (first | omega | (simp; done) | (simp; omega)))) | (with_reducible refine bvia (unhide HB6) ?_ ?_; (focus (first | omega | (simp; done) | (simp; omega)))))
set_option maxRecDepth 10000 in
set_option maxHeartbeats 1000000 in
theorem manParse_no (key s : ByteArray) (w : World) (hk : key.size ≤ 16) (hs : s.size ≤ maxLen) (h : M.isMan key s = false) :
    Calls Tryz.prog 163 #[.string key, .string s] w fun e w' => e = .returned (.tuple #[manZ, .bool false]) ∧ Below w.heap.size w w' := by
  have HL := hide hs
  unfold M.isMan at h
  cases hX : M.sealX (M.bz s) with
  | none =>
    have HX := hide hX
    clear hX h
    go_enter Tryz.func163, Tryz.ntmps163
    go_wp2_with fail
    refine (manRead_any s _ (unhide HL)).mono ?_
    rintro e w1 ⟨ao, n, cap, rfl, -, hb1⟩
    rw [readV_none HX.out]
    obtain ⟨k1, hs1, hb⟩ := blk1 hb1
    obtain ⟨hx1, hf1⟩ := block_facts k1
    have HB := hide hb
    clear hb hb1 k1
    have l1 : w.heap.size < w1.heap.size := (by omega); have n1 : ¬ w.heap.size = w1.heap.size := (by omega)
    go_wp2
    refine bodyPost_ret (v := .tuple #[manZ, .bool false]) (by simp [results, Tryz.results163, go_sem, hx1, l1]) rfl ⟨rfl, ?_⟩
    repeat (first | with_reducible exact unhide HB | with_reducible exact Below.refl _ _ | with_reducible refine bdrew ?_ | (with_reducible refine brow ?_ ?_; (focus (first | omega | (simp; done) | (simp; omega)))) | (with_reducible refine bset ?_ ?_; (focus (first | omega | (simp; done) | (simp; omega)))) | (with_reducible refine balloc ?_ ?_; (focus (first | omega | (simp; done) | (simp; omega)))) | (with_reducible refine bvia (unhide HB1) ?_ ?_; (focus (first | omega | (simp; done) | (simp; omega)))) | (with_reducible refine bvia (unhide HB2) ?_ ?_; (focus (first | omega | (simp; done) | (simp; omega)))) | (with_reducible refine bvia (unhide HB3) ?_ ?_; (focus (first | omega | (simp; done) | (simp; omega)))) | (with_reducible refine bvia (unhide HB4) ?_ ?_; (focus (first | omega | (simp; done) | (simp; omega)))) | (with_reducible refine bvia (unhide HB5) ?_ ?_; (focus (first | omega | (simp; done) | (simp; omega)))) | (with_reducible refine bvia (unhide HB6) ?_ ?_; (focus (first | omega | (simp; done) | (simp; omega)))))
  | some at_ =>
    rw [hX] at h
    have hle := M.sealX_le hX
    have hat : at_ ≤ 39 := hle.1
    have HX := hide hX
    by_cases hsz : s.size = at_ + 2
    · have hcr : M.bz s at_ * 256 + M.bz s (at_ + 1) ≠ M.crc (key ++ M.mk at_ (M.bz s)).data.toList := by
        intro e
        simp [hsz, e] at h
      have HCR := hide hcr
      have hsi : (at_ : Int) + 2 = (s.size : Int) := by omega
      have hne : ((at_ : Int) + 2 != (s.size : Int)) = false := by rw [hsi]; simp
      clear hX hcr hsz hle hsi h
      go_enter Tryz.func163, Tryz.ntmps163
      go_wp2_with fail
      refine (manRead_any s _ (unhide HL)).mono ?_
      rintro e w1 ⟨ao, n, cap, rfl, -, hb1⟩
      rw [readV_some HX.out]
      obtain ⟨k1, hs1, hb⟩ := blk1 hb1
      have K1 := hide k1
      have HB := hide hb
      clear hb hb1 k1
      have l1 : w.heap.size < w1.heap.size := (by omega); have n1 : ¬ w.heap.size = w1.heap.size := (by omega)
      go_wp2_with fail
      refine (padded_any s 0 at_ _ _ (unhide HL) (by omega) (by omega) rfl).mono ?_
      rintro e w2 ⟨rfl, hb2⟩
      have HP : Hid ((M.mk at_ fun j => M.bz s (0 + j)) = M.mk at_ (M.bz s)) := by show _ = _; congr 1; funext j; rw [Nat.zero_add]
      rw [HP.out]
      have hps : (M.mk at_ (M.bz s)).size ≤ 39 := by rw [M.mk_size]; omega
      generalize M.mk at_ (M.bz s) = P at *
      have k1 := kept_block hb2 (alloc_block (unhide K1) _)
      obtain ⟨k2, hs2, hb⟩ := blk1 hb2
      obtain ⟨hx1, hf1⟩ := block_facts k1
      obtain ⟨hx2, hf2⟩ := block_facts k2
      have HB2 : Hid (Below w.heap.size w w2) := (unhide HB).trans (hb.mono (by omega))
      clear hb hb2 k1 k2 K1 HP HB
      have HB := HB2
      clear HB2
      have l2 : w.heap.size < w2.heap.size := (by omega); have n2 : ¬ w.heap.size = w2.heap.size := (by omega)
      have l3 : w1.heap.size < w2.heap.size := (by omega); have n3 : ¬ w1.heap.size = w2.heap.size := (by omega)
      go_wp2_with fail
      refine (wordNumber_any s _ at_ _ (unhide HL) rfl (by omega)).mono ?_
      rintro e w' ⟨rfl, rfl⟩
      generalize M.bz s at_ * 256 + M.bz s (at_ + 1) = D at *
      go_wp2_with fail
      refine (sumOf_any (key ++ P) _ (by rw [ByteArray.size_append]; unfold maxLen; omega)).mono ?_
      rintro e w' ⟨rfl, rfl⟩
      generalize M.crc (key ++ P).data.toList = C at *
      have hbc : ((C : Int) != (D : Int)) = true := by have := HCR.out; simp; omega
      go_wp2
      refine bodyPost_ret (v := .tuple #[manZ, .bool false]) (by simp [results, Tryz.results163, go_sem, hx1]) rfl ⟨rfl, ?_⟩
      repeat (first | with_reducible exact unhide HB | with_reducible exact Below.refl _ _ | with_reducible refine bdrew ?_ | (with_reducible refine brow ?_ ?_; (focus (first | omega | (simp; done) | (simp; omega)))) | (with_reducible refine bset ?_ ?_; (focus (first | omega | (simp; done) | (simp; omega)))) | (with_reducible refine balloc ?_ ?_; (focus (first | omega | (simp; done) | (simp; omega)))) | (with_reducible refine bvia (unhide HB1) ?_ ?_; (focus (first | omega | (simp; done) | (simp; omega)))) | (with_reducible refine bvia (unhide HB2) ?_ ?_; (focus (first | omega | (simp; done) | (simp; omega)))) | (with_reducible refine bvia (unhide HB3) ?_ ?_; (focus (first | omega | (simp; done) | (simp; omega)))) | (with_reducible refine bvia (unhide HB4) ?_ ?_; (focus (first | omega | (simp; done) | (simp; omega)))) | (with_reducible refine bvia (unhide HB5) ?_ ?_; (focus (first | omega | (simp; done) | (simp; omega)))) | (with_reducible refine bvia (unhide HB6) ?_ ?_; (focus (first | omega | (simp; done) | (simp; omega)))))
    · have hne : ((at_ : Int) + 2 != (s.size : Int)) = true := by simp; omega
      clear hX hle h
      go_enter Tryz.func163, Tryz.ntmps163
      go_wp2_with fail
      refine (manRead_any s _ (unhide HL)).mono ?_
      rintro e w1 ⟨ao, n, cap, rfl, -, hb1⟩
      rw [readV_some HX.out]
      obtain ⟨k1, hs1, hb⟩ := blk1 hb1
      obtain ⟨hx1, hf1⟩ := block_facts k1
      have HB := hide hb
      clear hb hb1 k1
      have l1 : w.heap.size < w1.heap.size := (by omega); have n1 : ¬ w.heap.size = w1.heap.size := (by omega)
      go_wp2
      refine bodyPost_ret (v := .tuple #[manZ, .bool false]) (by simp [results, Tryz.results163, go_sem, hx1, l1]) rfl ⟨rfl, ?_⟩
      repeat (first | with_reducible exact unhide HB | with_reducible exact Below.refl _ _ | with_reducible refine bdrew ?_ | (with_reducible refine brow ?_ ?_; (focus (first | omega | (simp; done) | (simp; omega)))) | (with_reducible refine bset ?_ ?_; (focus (first | omega | (simp; done) | (simp; omega)))) | (with_reducible refine balloc ?_ ?_; (focus (first | omega | (simp; done) | (simp; omega)))) | (with_reducible refine bvia (unhide HB1) ?_ ?_; (focus (first | omega | (simp; done) | (simp; omega)))) | (with_reducible refine bvia (unhide HB2) ?_ ?_; (focus (first | omega | (simp; done) | (simp; omega)))) | (with_reducible refine bvia (unhide HB3) ?_ ?_; (focus (first | omega | (simp; done) | (simp; omega)))) | (with_reducible refine bvia (unhide HB4) ?_ ?_; (focus (first | omega | (simp; done) | (simp; omega)))) | (with_reducible refine bvia (unhide HB5) ?_ ?_; (focus (first | omega | (simp; done) | (simp; omega)))) | (with_reducible refine bvia (unhide HB6) ?_ ?_; (focus (first | omega | (simp; done) | (simp; omega)))))
/-- is t chunk i of the manifest g? -/
def tellsB (g : Nat → Nat) (i : Int) (t : ByteArray) : Bool :=
  !decide (i < 0 ∨ (M.chunksN (g 4) : Int) ≤ i ∨ t.size ≠ M.chunkLen (g 4) i.toNat ∨ M.crc t.data.toList ≠ M.numAt g (8 + 2 * i.toNat))
def passB (g : Nat → Nat) (s : ByteArray) : Bool := !M.exB g || (decide (evalNum s (M.exQ g) = 0) && decide (evalTxt s (M.exQ g) = M.exA g))
set_option maxRecDepth 10000 in
theorem manPassed_any (g : Nat → Nat) (v : Value) (s : ByteArray) (w : World) (hs : s.size ≤ maxLen) (hq : (M.exQ g).size ≤ maxLen) :
    Calls Tryz.prog 202 #[manOf g v, .string s] w fun e w' => e = .returned (.bool (passB g s)) ∧ Below w.heap.size w w' := by
  have HP : Hid (passB g s = (!M.exB g || (decide (evalNum s (M.exQ g) = 0) && decide (evalTxt s (M.exQ g) = M.exA g)))) := rfl
  have HA := hide (fun W => netAnswer_any s (M.exQ g) W hs hq)
  unfold manOf
  generalize M.exQ g = q at *
  generalize M.exA g = a at *
  generalize M.numAt g 0 = a0 at *
  generalize M.numAt g 2 = a2 at *
  generalize M.numAt g 6 = a6 at *
  generalize g 4 = a4 at *
  generalize g 5 = a5 at *
  cases hx : M.exB g
  · rw [hx] at HP
    go_enter Tryz.func202, Tryz.ntmps202
    go_wp2
    go_ret
    exact ⟨ret_bool HP.out.symm, (Below.refl _ _).alloc (Nat.le_refl _) _⟩
  · rw [hx] at HP
    go_enter Tryz.func202, Tryz.ntmps202
    go_wp2_with fail
    refine (unhide HA _).mono ?_
    rintro e w1 ⟨rfl, hb1⟩
    obtain ⟨k1, hs1, hb⟩ := blk1 hb1
    obtain ⟨hx1, hf1⟩ := block_facts k1
    have HB := hide hb
    clear hb hb1 k1
    generalize evalNum s q = en at *
    generalize evalTxt s q = et at *
    by_cases h0 : en = 0
    · subst h0
      by_cases h1 : et = a
      · subst h1
        go_wp2
        go_ret
        exact ⟨ret_bool (by rw [HP.out]; simp), unhide HB⟩
      · have HN := hide h1
        clear h1
        go_wp2
        go_ret
        exact ⟨ret_bool (by rw [HP.out, decide_eq_false HN.out]; simp; exact fun e => HN.out (text_inj e)), unhide HB⟩
    · go_wp2
      go_ret
      exact ⟨ret_bool (by rw [HP.out]; simp [h0]), unhide HB⟩
theorem tells_true {g : Nat → Nat} {i : Nat} {t : ByteArray} (hi : i < M.chunksN (g 4)) (hl : t.size = M.chunkLen (g 4) i) (hc : M.crc t.data.toList = M.numAt g (8 + 2 * i)) : tellsB g i t = true := by
  unfold tellsB
  rw [Int.toNat_natCast]
  simp [hl, hc]
  omega
theorem tells_false {g : Nat → Nat} {i : Int} {t : ByteArray} (h : i < 0 ∨ (M.chunksN (g 4) : Int) ≤ i ∨ t.size ≠ M.chunkLen (g 4) i.toNat ∨ M.crc t.data.toList ≠ M.numAt g (8 + 2 * i.toNat)) : tellsB g i t = false := by
  unfold tellsB
  rw [decide_eq_true h]
  rfl
set_option maxRecDepth 10000 in
set_option maxHeartbeats 1000000 in
theorem manTells_any (g : Nat → Nat) (ao : Option Addr) (cap : Nat) (i : Int) (t : ByteArray) (w : World) (h1 : 1 ≤ g 4) (h2 : g 4 ≤ 96) (ht : t.size ≤ maxLen) (hrow : HoldsRow w (.slice ao (M.chunksN (g 4)) cap) (M.chunksN (g 4)) (intCells (M.sumsL g (M.chunksN (g 4))))) :
    Calls Tryz.prog 167 #[manOf g (.slice ao (M.chunksN (g 4)) cap), .int .i64 i, .string t] w fun e w' => e = .returned (.bool (tellsB g i t)) ∧ Below w.heap.size w w' := by
  have hc6 : M.chunksN (g 4) ≤ 6 := by unfold M.chunksN; omega
  have hcp : 16 * M.chunksN (g 4) ≤ g 4 + 15 := by unfold M.chunksN; omega
  have HT := hide ht
  unfold manOf
  by_cases h0 : i < 0
  · have HE := hide (tells_false (g := g) (t := t) (.inl h0))
    generalize M.chunksN (g 4) = c at *
    clear hrow
    go_enter Tryz.func167, Tryz.ntmps167
    go_wp2
    go_ret
    exact ⟨ret_bool HE.out.symm, (Below.refl _ _).alloc (Nat.le_refl _) _⟩
  by_cases hc : (M.chunksN (g 4) : Int) ≤ i
  · have HE := hide (tells_false (g := g) (t := t) (.inr (.inl hc)))
    generalize M.chunksN (g 4) = c at *
    clear hrow
    go_enter Tryz.func167, Tryz.ntmps167
    go_wp2
    go_ret
    exact ⟨ret_bool HE.out.symm, (Below.refl _ _).alloc (Nat.le_refl _) _⟩
  obtain ⟨k, rfl⟩ := Int.eq_ofNat_of_zero_le (by omega : 0 ≤ i)
  have hk : k < M.chunksN (g 4) := by omega
  have hle : 16 * k ≤ g 4 := by omega
  by_cases hl : t.size = M.chunkLen (g 4) k
  · have HL := hide hl
    have hneq : ((t.size : Int) != ((M.chunkLen (g 4) k : Nat) : Int)) = false := by rw [hl]; simp
    obtain ⟨ao', cap', hv, _, hcap, hcell⟩ := hrow.shape
    cases hv
    obtain ⟨b, rfl, hb, hcells⟩ := hcell (by omega)
    have hsum : (intCells (M.sumsL g (M.chunksN (g 4))))[k]? = some (.int .i64 (M.numAt g (8 + 2 * k) : Nat)) := by
      rw [intCells_at (by rw [M.sumsL_length]; exact hk), M.sumsL_at g hk]
    have hx := hcells k _ hsum
    have HE : Hid (tellsB g k t = decide (M.crc t.data.toList = M.numAt g (8 + 2 * k))) := by
      show _ = _
      by_cases he : M.crc t.data.toList = M.numAt g (8 + 2 * k)
      · rw [tells_true hk hl he, decide_eq_true he]
      · rw [tells_false (.inr (.inr (.inr (by rw [Int.toNat_natCast]; exact he)))), decide_eq_false he]
    clear hcells hsum hcell hrow hl
    have HSZ := hide (fun W => manSize_any (M.numAt g 0) (M.numAt g 2) (M.numAt g 6) (g 5) (g 4) k (.slice (some ⟨b, 0, none⟩) (M.chunksN (g 4)) cap) (M.exB g) (M.exQ g) (M.exA g) W (by omega) (by omega) hle)
    have HSM := hide (fun W => sumOf_any t W ht)
    generalize M.chunkLen (g 4) k = L at *
    generalize M.crc t.data.toList = C at *
    generalize M.numAt g (8 + 2 * k) = D at *
    generalize hcc : M.chunksN (g 4) = c at *
    have HCC := hide hcc
    clear hcc
    have l1 : b < w.heap.size := (by omega); have n1 : ¬ b = w.heap.size := (by omega)
    go_enter Tryz.func167, Tryz.ntmps167
    go_wp2_with fail
    refine (unhide HSZ _).mono ?_
    rintro e w1 ⟨rfl, hb1⟩
    obtain ⟨k1, hs1, hb2⟩ := blk1 hb1
    obtain ⟨hx1, hf1⟩ := block_facts k1
    have hxb : w1.cell? ⟨b, k, none⟩ = some (.int .i64 D) := (hb2.cell (p := ⟨b, k, none⟩) l1).trans hx
    have hx5 : w1.cell? ⟨w.heap.size, 5, none⟩ = some (.slice (some ⟨b, 0, none⟩) c cap) := hx1 5
    have HB := hide hb2
    clear hb1 hb2 k1 hx HSZ hx1
    go_wp2_with fail
    go_region_held3 (fun X => X.cell? ⟨w.heap.size, 5, none⟩ = some (.slice (some ⟨b, 0, none⟩) c cap) ∧ X.cell? ⟨b, k, none⟩ = some (.int .i64 D)) (go_keep) ((go_at_call 187; refine (unhide HSM _).mono ?_; rintro e w' ⟨rfl, rfl⟩))
    all_goals
      go_wp2
      go_ret
      exact ⟨ret_bool (by rw [HE.out, Bool.eq_iff_iff]; simp; try omega), (unhide HB).drew⟩
  · have HE := hide (tells_false (g := g) (i := (k : Int)) (t := t) (.inr (.inr (.inl (by rw [Int.toNat_natCast]; exact hl)))))
    have hneq : ((t.size : Int) != ((M.chunkLen (g 4) k : Nat) : Int)) = true := by simp; omega
    obtain ⟨ao', cap', hv, _, hcap, hcell⟩ := hrow.shape
    cases hv
    have HSZ := hide (fun W => manSize_any (M.numAt g 0) (M.numAt g 2) (M.numAt g 6) (g 5) (g 4) k (.slice ao (M.chunksN (g 4)) cap) (M.exB g) (M.exQ g) (M.exA g) W (by omega) (by omega) hle)
    clear hcell hrow hl
    generalize M.chunkLen (g 4) k = L at *
    generalize hcc : M.chunksN (g 4) = c at *
    have HCC := hide hcc
    clear hcc
    go_enter Tryz.func167, Tryz.ntmps167
    go_wp2_with fail
    refine (unhide HSZ _).mono ?_
    rintro e w1 ⟨rfl, hb1⟩
    have HB := hide (blk1 hb1).2.2
    clear hb1
    go_wp2
    go_ret
    exact ⟨ret_bool HE.out.symm, unhide HB⟩
end Go.Proofs.YtjfmiomopfjecabGreat

/- New devices, walked. -/
namespace Go.Proofs.YtjfmiomopfjecabGreat
open Go.RowKit Go.Lib

theorem infoDev : (Tryz.prog.info? 105).map (fun i => (i.zero, i.size)) = some (some (.agg (devCells ⟨#[]⟩ (fun _ => 0) false 0 0 0)), 373) := by kernel_rfl
theorem booted_any (w : World) :
    Calls Tryz.prog 70 #[] w fun e w' => e = .returned (.agg #[.int .i64 0, .int .i64 1, .int .i64 0]) ∧ Below w.heap.size w w' := by
  go_enter Tryz.func70, Tryz.ntmps70
  go_wp2
  refine bodyPost_ret (v := .agg #[.int .i64 0, .int .i64 1, .int .i64 0]) (by simp [results, Tryz.results70, go_sem]) rfl ⟨rfl, ?_⟩
  exact (Below.refl _ _).alloc (Nat.le_refl _) _
theorem slotPage_any (i : Nat) (w : World) (hi : i ≤ 1) :
    Calls Tryz.prog 72 #[.int .i64 i] w fun e w' => e = .returned (.int .i64 (11 + 6 * i : Nat)) ∧ w = w' := by
  go_enter Tryz.func72, Tryz.ntmps72
  go_wp2
  go_ret
  exact ⟨ret_int (by omega), rfl⟩
/-- the cells that a new device begins with -/
theorem begin_cells (key : ByteArray) : (((((devCells ⟨#[]⟩ (fun _ => 0) false 0 0 0).setIfInBounds 0 (.string key)).setIfInBounds 369 (.bool true)).setIfInBounds 370 (.int .i64 0)).setIfInBounds 371 (.int .i64 1)).setIfInBounds 372 (.int .i64 0) = devCells key (fun _ => 0) true 0 1 0 := by
  have e0 : (devCells ⟨#[]⟩ (fun _ => 0) false 0 0 0).setIfInBounds 0 (.string key) = devCells key (fun _ => 0) false 0 0 0 := by
    unfold devCells
    rw [List.setIfInBounds_toArray, List.set_cons_zero]
  rw [e0, show (369 : Nat) = 369 + 0 from rfl, devCells_setTail key _ false true 0 0 0 0 0 0 0 (.bool true) rfl, show (370 : Nat) = 369 + 1 from rfl, devCells_setTail key _ true true 0 0 0 0 0 0 1 (.int .i64 0) rfl,
    show (371 : Nat) = 369 + 2 from rfl, devCells_setTail key _ true true 0 0 0 0 1 0 2 (.int .i64 1) rfl, show (372 : Nat) = 369 + 3 from rfl, devCells_setTail key _ true true 0 1 0 0 1 0 3 (.int .i64 0) rfl]
theorem devCells_one (key : ByteArray) (F : Nat → Nat) (on : Bool) (wait next age : Nat) : (devCells key F on wait next age).all (·.oneCell') = true := by
  unfold devCells
  simp [byteC, tailC, Value.oneCell']
def zeroDev : Array Value := devCells ⟨#[]⟩ (fun _ => 0) false 0 0 0
def freshDev (key : ByteArray) : Array Value := devCells key (fun _ => 0) true 0 1 0
theorem zeroDev_size : zeroDev.size = 373 := devCells_size ..
theorem zeroDev_run (w : World) : (zeroValue 105).run Tryz.prog w = .ok (.agg zeroDev) w := (zero_of_info infoDev).1 w
theorem dev_size : (Tryz.prog.info? 105).map (·.size) = some 373 := (zero_of_info infoDev).2
theorem fresh_list (key : ByteArray) : ((((zeroDev.toList.set 0 (.string key)).set 369 (.bool true)).set 370 (.int .i64 0)).set 371 (.int .i64 1)).set 372 (.int .i64 0) = (freshDev key).toList := by
  have e := begin_cells key
  have e2 := congrArg Array.toList e
  simp only [Array.toList_setIfInBounds] at e2
  exact e2
theorem store_begin (w1 : World) (key : ByteArray) :
    (storeCells ⟨w1.heap.size, 0, none⟩ (((((zeroDev.toList.set 0 (.string key)).set 369 (.bool true)).set 370 (.int .i64 0)).set 371 (.int .i64 1)).set 372 (.int .i64 0))).run Tryz.prog (w1.alloc (.cells zeroDev 105)) = .ok () (w1.alloc (.cells (freshDev key) 105)) := by
  rw [fresh_list]
  exact run_storeCells_new (P := Tryz.prog) w1 105 zeroDev (freshDev key) (by rw [dev_size, show (freshDev key).size = 373 from devCells_size ..]) ((devCells_size ..).trans (devCells_size ..).symm) (devCells_one ..)
set_option maxRecDepth 10000 in
set_option maxHeartbeats 1000000 in
theorem written_any (pg num kp ph tr s0 v0 s1 v1 th : Nat) (w : World) (h0 : num < 256) (h1 : kp < 256) (h2 : ph < 256) (h3 : tr < 256) (h4 : s0 < 256) (h5 : s1 < 256) (h6 : v0 ≤ 65535) (h7 : v1 ≤ 65535) (h8 : th < 256) :
    Calls Tryz.prog 75 #[recV pg num kp ph tr s0 v0 s1 v1 th] w fun e w' => e = .returned (.agg #[.int .i64 pg, .string (recP num kp ph tr s0 v0 s1 v1 th)]) ∧ Below w.heap.size w w' := by
  have HT := hide (fun W => recText_any pg num kp ph tr s0 v0 s1 v1 th W h0 h1 h2 h3 h4 h5 h6 h7 h8)
  generalize recP num kp ph tr s0 v0 s1 v1 th = T at *
  go_enter Tryz.func75, Tryz.ntmps75
  go_wp2_with fail
  go_region_held3 (fun X => X.cell? ⟨w.heap.size, 0, none⟩ = some (.int .i64 pg) ∧ X.cell? ⟨w.heap.size, 1, none⟩ = some (.int .i64 num) ∧ X.cell? ⟨w.heap.size, 2, none⟩ = some (.int .i64 kp) ∧ X.cell? ⟨w.heap.size, 3, none⟩ = some (.int .i64 ph) ∧ X.cell? ⟨w.heap.size, 4, none⟩ = some (.int .i64 tr) ∧ X.cell? ⟨w.heap.size, 5, none⟩ = some (.int .i64 s0) ∧ X.cell? ⟨w.heap.size, 6, none⟩ = some (.int .i64 v0) ∧ X.cell? ⟨w.heap.size, 7, none⟩ = some (.int .i64 s1) ∧ X.cell? ⟨w.heap.size, 8, none⟩ = some (.int .i64 v1) ∧ X.cell? ⟨w.heap.size, 9, none⟩ = some (.int .i64 th)) (first | go_keep | (simp only [hyN, hzN]; simp; done)) ((go_at_call 105; refine (unhide HT _).mono ?_; rintro e wN ⟨rfl, hbN⟩; obtain ⟨hzN, hfN⟩ := block_facts ((hbN.block (w.heap.size + 1) (by simp)).trans (last_block _ _ (by simp))); obtain ⟨hyN, hfyN⟩ := block_facts ((hbN.block w.heap.size (by simp; omega)).trans (first_block _ _ _))))
  have HB : Hid (Below w.heap.size w wN) := two_alloc ((Below.drew (Below.refl _ _)).trans (hbN.mono (by simp)))
  clear hbN hfN hfyN hyN
  go_wp2
  refine bodyPost_ret (v := .agg #[.int .i64 pg, .string T]) (by simp [results, Tryz.results75, go_sem, hzN]) rfl ⟨rfl, ?_⟩
  exact ((unhide HB).setCell (by simp) _).setCell (by simp) _
/- whole rows that are read and written -/
theorem load_row {W : World} {g : Nat} {c : Array Value} {t : TypeId} {fr : Nat × Nat} (hg : W.heap[g]? = some (.cells c t fr)) {n : Nat} (hn : c.size = n) : (loadCellsFrom ⟨g, 0, none⟩ 0 n #[]).run Tryz.prog W = .ok c W := by
  subst hn
  have := run_loadCells_list (P := Tryz.prog) W ⟨g, 0, none⟩ c.toList (fun j v hv => by
    rw [add_at, cell_in hg]
    simpa using hv)
  simpa [loadCells] using this
theorem store_row {W : World} {g : Nat} {old c : Array Value} {t ty : TypeId} (hg : W.heap[g]? = some (.cells old t (0, 0))) (hi : (Tryz.prog.info? ty).map (·.size) = some c.size) (ho : old.size = c.size) (h1 : c.all (·.oneCell') = true) :
    (storeCells ⟨g, 0, none⟩ c.toList).run Tryz.prog W = .ok () (W.setRow g c) := by
  have := run_storeVar_row (P := Tryz.prog) W g t ty old c hg hi ho h1
  cases hq : Tryz.prog.info? ty with
  | none => simp [hq] at hi
  | some i =>
    have hs : c.size = i.size := by simp [hq] at hi; omega
    simpa [storeVar, sizeOf, typeInfo, hq, Value.cells, hs] using this
theorem setRow_below {w W : World} {B g : Nat} (h : Below B w W) (hg : B ≤ g) (c : Array Value) : Below B w (W.setRow g c) := by
  refine ⟨h.os, h.tape, h.output, ?_, fun k hk => ?_⟩
  · refine Nat.le_trans h.size ?_
    unfold World.setRow
    simp
  · unfold World.setRow
    rw [Array.getElem?_modify, if_neg (by omega)]
    exact h.block k hk
def newG (image : ByteArray) (version : Nat) : List GW := spreadG 11 (M.chunksN image.size) image ++ [(0, recP 1 0 0 0 image.size version 0 0 0)]
theorem spread_put (first n : Nat) (s : ByteArray) (F : Nat → Nat) (j : Nat) : M.puts F (gwsOf (spreadG first n s)) j = if 16 * first ≤ j ∧ j < 16 * first + 16 * n then M.bz s (j - 16 * first) else F j := by
  induction n generalizing j with
  | zero =>
    rw [if_neg (by omega)]
    rfl
  | succ n ih =>
    rw [spreadG_succ]
    unfold gwsOf at *
    rw [List.map_append, M.puts_append]
    show M.put (M.puts F (List.map gwOf (spreadG first n s))) (first + n) (M.bz (M.mk 16 fun j => M.bz s (16 * n + j))) 16 j = _
    by_cases h : 16 * (first + n) ≤ j ∧ j < 16 * (first + n) + 16
    · obtain ⟨i, rfl⟩ : ∃ i, j = 16 * (first + n) + i := ⟨j - 16 * (first + n), by omega⟩
      rw [M.put_in (by omega), if_pos ⟨by omega, by omega⟩, M.bz_mk (fun _ _ => M.bz_lt _ _) (by omega), show 16 * (first + n) + i - 16 * first = 16 * n + i from by omega]
    · rw [M.put_out (by omega), ih]
      by_cases h2 : 16 * first ≤ j ∧ j < 16 * first + 16 * n
      · rw [if_pos h2, if_pos ⟨by omega, by omega⟩]
      · rw [if_neg h2, if_neg (by omega)]
theorem new_puts {image : ByteArray} {version : Nat} (hs : image.size ≤ 80) (hv : version ≤ 65535) : M.puts (fun _ => 0) (gwsOf (newG image version)) = M.newF image version := by
  funext j
  unfold newG
  have e : gwsOf (spreadG 11 (M.chunksN image.size) image ++ [(0, recP 1 0 0 0 image.size version 0 0 0)]) = gwsOf (spreadG 11 (M.chunksN image.size) image) ++ [(0, M.bz (recP 1 0 0 0 image.size version 0 0 0))] := by simp [gwsOf, gwOf]
  rw [e, M.puts_append]
  show M.put (M.puts (fun _ => 0) (gwsOf (spreadG 11 (M.chunksN image.size) image))) 0 (M.bz (recP 1 0 0 0 image.size version 0 0 0)) 16 j = _
  by_cases h : j < 16
  · have e2 := M.put_in (F := M.puts (fun _ => 0) (gwsOf (spreadG 11 (M.chunksN image.size) image))) (p := 0) (s := M.bz (recP 1 0 0 0 image.size version 0 0 0)) (t := 16) h
    rw [Nat.mul_zero, Nat.zero_add] at e2
    rw [e2]
    unfold recP
    rw [M.bz_mk (fun i hi => M.recB_bytes (by omega) (by omega) (by omega) (by omega) (by omega) (by omega) (by omega) (by omega) (by omega) (by omega) (by omega) 0 i hi) h]
    have hc : j = 0 ∨ j = 1 ∨ j = 2 ∨ j = 3 ∨ j = 4 ∨ j = 5 ∨ j = 6 ∨ j = 7 ∨ j = 8 ∨ j = 9 ∨ j = 10 ∨ j = 11 ∨ j = 12 ∨ j = 13 ∨ j = 14 ∨ j = 15 := by omega
    unfold M.newF M.recB
    rcases hc with rfl | rfl | rfl | rfl | rfl | rfl | rfl | rfl | rfl | rfl | rfl | rfl | rfl | rfl | rfl | rfl
    all_goals simp
  · have e3 : M.newF image version j = if 176 ≤ j ∧ j < 176 + image.size then M.bz image (j - 176) else 0 := by
      unfold M.newF
      rw [if_neg (by omega), if_neg (by omega), if_neg (by omega), if_neg (by omega), if_neg (by omega)]
    rw [M.put_out (by omega), spread_put, e3]
    by_cases h2 : 176 ≤ j ∧ j < 176 + image.size
    · rw [if_pos h2, if_pos ⟨by omega, by unfold M.chunksN; omega⟩]
    · rw [if_neg h2]
      by_cases h3 : 16 * 11 ≤ j ∧ j < 16 * 11 + 16 * M.chunksN image.size
      · rw [if_pos h3, M.bz_out _ _ (by omega)]
      · rw [if_neg h3]
theorem newG_length (image : ByteArray) (version : Nat) : (newG image version).length = M.chunksN image.size + 1 := by
  unfold newG
  rw [List.length_append, spreadG_length]
  rfl
theorem newG_in {image : ByteArray} {version : Nat} (hs : image.size ≤ 80) {a : GW} (h : a ∈ newG image version) : a.1 < 23 ∧ a.2.size ≤ maxLen := by
  unfold newG spreadG at h
  simp only [List.mem_append, List.mem_map, List.mem_range, List.mem_cons, List.not_mem_nil, or_false] at h
  rcases h with ⟨i, hi, rfl⟩ | rfl
  · unfold M.chunksN at hi
    exact ⟨by show 11 + i < 23; omega, by show (M.mk 16 _).size ≤ maxLen; rw [M.mk_size]; unfold maxLen; omega⟩
  · exact ⟨by show 0 < 23; omega, by show (recP ..).size ≤ maxLen; unfold recP; rw [M.mk_size]; unfold maxLen; omega⟩
set_option maxRecDepth 10000 in
set_option maxHeartbeats 1000000 in
theorem deviceNew_any (key image : ByteArray) (version : Nat) (w : World) (hi : M.isImage image = true) (hv : version ≤ 65535) :
    Calls Tryz.prog 56 #[.string key, .string image, .int .i64 version] w fun e w' => e = .returned (.agg (devCells key (M.newF image version) true 0 1 0)) ∧ Below w.heap.size w w' := by
  have hzero := zeroDev_run
  have hZs := zeroDev_size
  have hZn : ¬ zeroDev = #[] := fun e => by rw [e] at hZs; exact absurd hZs (by decide)
  have HST := hide (fun w1 => store_begin w1 key)
  have HFR := hide (show freshDev key = devCells key (fun _ => 0) true 0 1 0 from rfl)
  have himg := M.image_size hi
  have HCN : Hid (M.chunksN image.size ≤ 5) := by show _ ≤ _; unfold M.chunksN; omega
  generalize freshDev key = Y at *
  generalize zeroDev = Z at *
  go_enter Tryz.func56, Tryz.ntmps56
  go_wp2_with fail
  refine (booted_any _).mono ?_
  rintro e w1 ⟨rfl, hb⟩
  have HB1 := hide hb
  have hs1 := hb.size
  simp only [World.size_alloc] at hs1
  clear hb
  have hst := unhide HST w1
  go_wp2_with fail
  clear hst HST
  refine (slotPage_any 0 _ (by omega)).mono ?_
  rintro e w' ⟨rfl, rfl⟩
  go_wp2_with fail
  refine (needed_any image.size _ (by omega)).mono ?_
  rintro e w' ⟨rfl, rfl⟩
  go_wp2_with fail
  refine (spread_any 11 (M.chunksN image.size) image _ (by unfold maxLen; omega) (by omega) (by have := HCN.out; omega)).mono ?_
  rintro e w2 ⟨vl, rfl, hown, hb2⟩
  have hs2 := hb2.size
  simp only [World.size_alloc] at hs2 hb2 hown
  have HB2 : Hid (Below (w1.heap.size + 1) (w1.alloc (.cells Y 105)) w2) := hb2
  have HO2 := hide hown
  clear hown hb2
  go_wp2_with fail
  refine (recFirst_any image.size version _).mono ?_
  rintro e w3 ⟨rfl, hb3⟩
  have hs3 := hb3.size
  have HB3 : Hid (Below (w1.heap.size + 1) (w1.alloc (.cells Y 105)) w3) := (unhide HB2).trans (hb3.mono hs2)
  have HO3 := hide (ownsRow_below (unhide HO2) hb3)
  clear hb3
  go_wp2_with fail
  refine (written_any 0 1 0 0 0 image.size version 0 0 0 _ (by omega) (by omega) (by omega) (by omega) (by omega) (by omega) hv (by omega) (by omega)).mono ?_
  rintro e w4 ⟨rfl, hb4⟩
  generalize hT : recP 1 0 0 0 image.size version 0 0 0 = T at *
  have HT := hide hT
  clear hT
  have hs4 := hb4.size
  simp only [World.size_alloc] at hs4
  have HB4 : Hid (Below (w1.heap.size + 1) (w1.alloc (.cells Y 105)) w4) := ((unhide HB3).alloc (by omega) _).trans (hb4.mono (by simp; omega))
  have HO4 := hide (ownsRow_below ((unhide HO3).alloc _) hb4)
  clear hb4
  go_wp2_with (at_builtin; (refine append_write _ rfl (.tmp 24) (.tmp 27) rfl (w1.heap.size + 1) vl (spreadG 11 (M.chunksN image.size) image) _ (0, T) rfl rfl rfl (by rw [spreadG_length]; exact unhide HO4) (by rw [spreadG_length]; have := HCN.out; omega) (by omega) ?_); intro vm w5 hown5 hbel5 hsz5)
  have HO5 : Hid (w5.ownsRow (w1.heap.size + 1) 136 2 vm (newG image version).length (gwCells (newG image version))) := by unfold newG; rw [HT.out]; exact hown5
  have HB5 := hide (hbel5 _ (unhide HB4))
  have HD5 : Hid (DevAt w5 w1.heap.size 105 key (fun _ => 0) true 0 1 0) := by
    have := (unhide HB5).block w1.heap.size (by omega)
    rw [last_block _ _ rfl, HFR.out] at this
    exact this
  have HNB : Hid (vm.ownBlock ≠ some w1.heap.size) := fun e => by have := ((unhide HO5).lt _ e).1; omega
  have HZ5 : Hid (w5.heap[w.heap.size]? = some (.cells Z 105)) := by
    show _ = _
    rw [(unhide HB5).block w.heap.size (by omega), Below.heap_alloc _ _ _ (by omega), (unhide HB1).block w.heap.size (by simp)]
    exact last_block _ _ rfl
  have hs5 : w1.heap.size + 1 ≤ w5.heap.size := by omega
  clear hown5 hbel5
  refine (writeAll_any (unhide HD5) vm (newG image version) (-1) 0 (holdsRow_own (unhide HO5)) (unhide HNB) (by rw [newG_length]; have := HCN.out; omega) (fun a ha => newG_in himg.1 ha)).mono ?_
  rintro e w6 ⟨rfl, hd6, ho6⟩
  have hwr : writtenF (fun _ => 0) (newG image version) (-1) 0 = M.newF image version := by
    unfold writtenF
    rw [if_neg (by omega)]
    exact new_puts himg.1 hv
  rw [hwr] at hd6
  clear hwr
  have hz6 : w6.heap[w.heap.size]? = some (.cells Z 105) := (ho6.block _ (by omega) (by omega)).trans (unhide HZ5)
  have HB6 : Hid (Below w.heap.size w w6) := by
    have b1 : Below w.heap.size w w1 := one_alloc ((unhide HB1).mono (by simp))
    have b5 : Below w.heap.size w w5 := (b1.alloc (by omega) _).trans ((unhide HB5).mono (by omega))
    exact b5.trans (ho6.below (by omega) (fun k hk => by omega))
  have HCs := hide (devCells_size key (M.newF image version) true 0 1 0)
  have HC1 := hide (devCells_one key (M.newF image version) true 0 1 0)
  have HCB : Hid (w6.heap[w1.heap.size]? = some (.cells (devCells key (M.newF image version) true 0 1 0) 105 (0, 0))) := hd6
  generalize hC : devCells key (M.newF image version) true 0 1 0 = C at *
  have HC := hide hC
  have hsr := store_row (ty := 105) hz6 (by rw [dev_size, HCs.out]) (by rw [HCs.out]; exact hZs) HC1.out
  have HZ7 : Hid ((w6.setRow w.heap.size C).heap[w.heap.size]? = some (.cells C 105 (0, 0))) := setRow_heap w6 w.heap.size Z C _ _ hz6
  have HB7 := hide (setRow_below (unhide HB6) (Nat.le_refl _) C)
  have hCs := HCs.out
  clear hC hd6 ho6 hz6
  generalize w6.setRow w.heap.size C = w7 at *
  go_wp2_with fail
  refine wp_load_row 105 (.tmp 7) rfl w1.heap.size rfl _ C (0, 0) _ (unhide HCB) Tryz.underlying105 rfl (by rw [dev_size, hCs]) ?_
  go_wp2
  refine bodyPost_ret (v := .agg C) (results_cell_row Tryz.results56 _ _ w.heap.size _ C (0, 0) _ rfl (unhide HZ7) Tryz.underlying105 rfl (by rw [dev_size, hCs])) rfl ⟨by rw [← HC.out], unhide HB7⟩
end Go.Proofs.YtjfmiomopfjecabGreat

/- slots.New. -/
namespace Go.Proofs.YtjfmiomopfjecabGreat
open Go.RowKit Go.Lib

theorem infoSDev : (Tryz.prog.info? 108).map (fun i => (i.zero, i.size)) = some (some (.agg (devCells ⟨#[]⟩ (fun _ => 0) false 0 0 0)), 373) := by kernel_rfl
theorem zeroSDev_run (w : World) : (zeroValue 108).run Tryz.prog w = .ok (.agg zeroDev) w := (zero_of_info infoSDev).1 w
theorem fill_list (l : List Value) : ∀ (k : Nat) (Z : Array Value), Z.size = k + l.length → ∀ i, ((l.zipIdx k).foldl (fun cs x => cs.setIfInBounds x.snd x.fst) Z)[i]? = if k ≤ i then l[i - k]? else Z[i]? := by
  induction l with
  | nil =>
    intro k Z h i
    simp only [List.zipIdx_nil, List.foldl_nil]
    by_cases hk : k ≤ i
    · rw [if_pos hk, Array.getElem?_eq_none (by rw [h]; simp; omega)]
      simp
    · rw [if_neg hk]
  | cons a l ih =>
    intro k Z h i
    rw [List.zipIdx_cons, List.foldl_cons, ih (k + 1) _ (by simp at h ⊢; omega)]
    by_cases hk : k + 1 ≤ i
    · rw [if_pos hk, if_pos (by omega), show i - k = (i - (k + 1)) + 1 from by omega, List.getElem?_cons_succ]
    · rw [if_neg hk, Array.getElem?_setIfInBounds]
      by_cases he : k = i
      · subst he
        simp at h
        rw [if_pos rfl, if_pos (by omega), if_pos (Nat.le_refl _)]
        simp
      · rw [if_neg he, if_neg (by omega)]
theorem fill_all {C Z : Array Value} (hC : C.size = 373) (hZ : Z.size = 373) : Array.foldl (fun cs x => cs.setIfInBounds x.snd x.fst) Z C.zipIdx 0 373 = C := by
  have e : Array.foldl (fun (cs : Array Value) (x : Value × Nat) => cs.setIfInBounds x.snd x.fst) Z C.zipIdx 0 373 = (C.toList.zipIdx 0).foldl (fun cs x => cs.setIfInBounds x.snd x.fst) Z := by
    have h1 : C.zipIdx.size = 373 := by simpa using hC
    rw [← h1, ← Array.foldl_toList]
    simp
  rw [e]
  apply Array.ext_getElem?
  intro i
  rw [fill_list C.toList 0 Z (by simp; omega), if_pos (Nat.zero_le _)]
  simp
/-- why there is no new device: 0 if there is one -/
def newNum (key image : ByteArray) (version : Int) : Int := if 16 < key.size then 5 else if M.isImage image = false then 1 else if version < 0 ∨ 65535 < version then 6 else 0
theorem slotsNew_ok (key image : ByteArray) (version : Nat) (w : World) (hk : key.size ≤ 16) (hi : M.isImage image = true) (hv : version ≤ 65535) :
    Calls Tryz.prog 33 #[.string key, .string image, .int .i64 version] w fun e w' => ∃ b, e = .returned (.tuple #[.pointer (some ⟨b, 0, none⟩), .int .i64 0]) ∧ w.heap.size ≤ b ∧ DevAt w' b 108 key (M.newF image version) true 0 1 0 ∧ Below w.heap.size w w' := by
  have himg := M.image_size hi
  have HI : Hid (checkNum image = 0) := by show _ = _; unfold checkNum; rw [hi]; rfl
  have HH := hide hi
  have hzero := zeroSDev_run
  have hZs := zeroDev_size
  have hZn : ¬ zeroDev = #[] := fun e => by rw [e] at hZs; exact absurd hZs (by decide)
  have hCs := devCells_size key (M.newF image version) true 0 1 0
  have HN := hide (fun W => deviceNew_any key image version W hi hv)
  have hk1 : ¬ (16 : Int) < (key.size : Int) := by omega
  clear hi
  generalize hC : devCells key (M.newF image version) true 0 1 0 = C at *
  have HC := hide hC
  clear hC
  generalize zeroDev = Z at *
  go_enter Tryz.func33, Tryz.ntmps33
  go_wp2_with fail
  refine (netCheck_any image _ (by unfold maxLen; omega)).mono ?_
  rintro e w1 ⟨rfl, hb1⟩
  rw [HI.out]
  go_wp2_with fail
  refine (unhide HN _).mono ?_
  rintro e w2 ⟨rfl, hb2⟩
  have HB2 : Hid (Below w.heap.size w w2) := hb1.trans (hb2.mono hb1.size)
  clear hb1 hb2
  have hfl := fill_all hCs hZs
  go_wp2
  have hD : DevAt (w2.alloc (.cells C 108)) w2.heap.size 108 key (M.newF image version) true 0 1 0 := by
    unfold DevAt
    rw [HC.out]
    exact last_block _ _ rfl
  go_ret2
  exact ⟨w2.heap.size, rfl, (unhide HB2).size, hD, (unhide HB2).alloc (unhide HB2).size _⟩
theorem ret_nil {n m : Int} (h : n = m) : Ending.returned (.tuple #[.pointer none, .int .i64 n]) = .returned (.tuple #[.pointer none, .int .i64 m]) := by rw [h]
theorem slotsNew_no (key image : ByteArray) (version : Int) (w : World) (his : image.size ≤ maxLen) (h : newNum key image version ≠ 0) :
    Calls Tryz.prog 33 #[.string key, .string image, .int .i64 version] w fun e w' => e = .returned (.tuple #[.pointer none, .int .i64 (newNum key image version)]) ∧ Below w.heap.size w w' := by
  unfold newNum at h
  by_cases hk : 16 < key.size
  · have HE : Hid (newNum key image version = 5) := if_pos hk
    have hk1 : (16 : Int) < (key.size : Int) := by omega
    go_enter Tryz.func33, Tryz.ntmps33
    go_wp2
    go_ret2
    exact ⟨ret_nil HE.out.symm, Below.refl _ _⟩
  · rw [if_neg hk] at h
    have hk1 : ¬ (16 : Int) < (key.size : Int) := by omega
    cases hi : M.isImage image
    · have HE : Hid (newNum key image version = 1) := by show _ = _; unfold newNum; rw [if_neg hk, hi, if_pos rfl]
      have HI : Hid (checkNum image = 1) := by show _ = _; unfold checkNum; rw [hi]; rfl
      go_enter Tryz.func33, Tryz.ntmps33
      go_wp2_with fail
      refine (netCheck_any image _ his).mono ?_
      rintro e w1 ⟨rfl, hb1⟩
      rw [HI.out]
      go_wp2
      go_ret2
      exact ⟨ret_nil HE.out.symm, hb1⟩
    · rw [hi, if_neg (by simp)] at h
      have hv : version < 0 ∨ 65535 < version := by
        by_cases hv : version < 0 ∨ 65535 < version
        · exact hv
        · rw [if_neg hv] at h; exact absurd rfl h
      have HE : Hid (newNum key image version = 6) := by show _ = _; unfold newNum; rw [if_neg hk, hi, if_neg (by simp), if_pos hv]
      have HI : Hid (checkNum image = 0) := by show _ = _; unfold checkNum; rw [hi]; rfl
      clear h
      rcases hv with hv | hv
      · go_enter Tryz.func33, Tryz.ntmps33
        go_wp2_with fail
        refine (netCheck_any image _ his).mono ?_
        rintro e w1 ⟨rfl, hb1⟩
        rw [HI.out]
        go_wp2
        go_ret2
        exact ⟨ret_nil HE.out.symm, hb1⟩
      · have hv0 : ¬ version < 0 := by omega
        go_enter Tryz.func33, Tryz.ntmps33
        go_wp2_with fail
        refine (netCheck_any image _ his).mono ?_
        rintro e w1 ⟨rfl, hb1⟩
        rw [HI.out]
        go_wp2
        go_ret2
        exact ⟨ret_nil HE.out.symm, hb1⟩
end Go.Proofs.YtjfmiomopfjecabGreat

/- What an event comes to, in memory: the pages that it writes, the answer, what the device is like. -/
namespace Go.Proofs.YtjfmiomopfjecabGreat
open Go.RowKit Go.Lib

/-- the record in the flash, as it lies in memory -/
abbrev recF (F : Nat → Nat) : Value := recV (M.recAt F) (M.fld F 0) (M.fld F 1) (M.fld F 2) (M.fld F 3) (M.fld F 4) (M.verOf F 0) (M.fld F 5) (M.verOf F 1) (M.fld F 10)
abbrev outC (v : Value) (on : Bool) (wait next age err : Int) (text : ByteArray) (ask : Int) : Array Value := #[v, .bool on, .int .i64 wait, .int .i64 next, .int .i64 age, .int .i64 err, .string text, .int .i64 ask]
abbrev outV (v : Value) (on : Bool) (wait next age err : Int) (text : ByteArray) (ask : Int) : Value := .agg #[v, .bool on, .int .i64 wait, .int .i64 next, .int .i64 age, .int .i64 err, .string text, .int .i64 ask]
theorem lblk {W : World} {o : Obj} {n : Nat} (h : n = W.heap.size) : (W.alloc o).heap[n]? = some o := last_block _ _ h
theorem ablk {X : World} {g : Nat} {o o2 : Obj} (hX : X.heap[g]? = some o) : (X.alloc o2).heap[g]? = some o := alloc_block hX o2
theorem sblk {X : World} {g h o : Nat} {u : Value} {b : Obj} (hne : ¬ g = h) (hX : X.heap[g]? = some b) : (X.setCell ⟨h, o, none⟩ u).heap[g]? = some b := set_block hX hne
section
variable {w : World} {b : Nat} {t : TypeId} {key : ByteArray} {F : Nat → Nat} {on : Bool} {wait next age : Nat}
set_option maxRecDepth 10000 in
theorem devStill_any (h : DevAt w b t key F on wait next age) :
    Calls Tryz.prog 160 #[.pointer (some ⟨b, 0, none⟩)] w fun e w' => e = .returned (outV (.slice none 0 0) on wait next age 0 ⟨#[]⟩ (-1)) ∧ Below w.heap.size w w' := by
  have hlt := h.lt
  have hne : ¬ b = w.heap.size := by omega
  have c1 := h.onC
  have c2 := h.waitC
  have c3 := h.nextC
  have c4 := h.ageC
  clear h
  go_enter Tryz.func160, Tryz.ntmps160
  go_wp2_with fail
  go_region
  go_wp2
  refine bodyPost_ret (v := outV (.slice none 0 0) on wait next age 0 ⟨#[]⟩ (-1)) (by simp [results, Tryz.results160, go_sem]) rfl ⟨rfl, ?_⟩
  repeat (first | with_reducible exact unhide HB | with_reducible exact Below.refl _ _ | with_reducible refine bdrew ?_ | (with_reducible refine brow ?_ ?_; (focus (first | omega | (simp; done) | (simp; omega)))) | (with_reducible refine bset ?_ ?_; (focus (first | omega | (simp; done) | (simp; omega)))) | (with_reducible refine balloc ?_ ?_; (focus (first | omega | (simp; done) | (simp; omega)))) | (with_reducible refine bvia (unhide HB1) ?_ ?_; (focus (first | omega | (simp; done) | (simp; omega)))) | (with_reducible refine bvia (unhide HB2) ?_ ?_; (focus (first | omega | (simp; done) | (simp; omega)))) | (with_reducible refine bvia (unhide HB3) ?_ ?_; (focus (first | omega | (simp; done) | (simp; omega)))) | (with_reducible refine bvia (unhide HB4) ?_ ?_; (focus (first | omega | (simp; done) | (simp; omega)))) | (with_reducible refine bvia (unhide HB5) ?_ ?_; (focus (first | omega | (simp; done) | (simp; omega)))) | (with_reducible refine bvia (unhide HB6) ?_ ?_; (focus (first | omega | (simp; done) | (simp; omega)))))
theorem DevAt.alloc (h : DevAt w b t key F on wait next age) (o : Obj) : DevAt (w.alloc o) b t key F on wait next age := alloc_block h o
theorem DevAt.kept {w' : World} (h : DevAt w b t key F on wait next age) (hb : Below w.heap.size w w') : DevAt w' b t key F on wait next age := kept_block hb h
set_option maxRecDepth 10000 in
theorem devFault_any (h : DevAt w b t key F on wait next age) (err : Int) :
    Calls Tryz.prog 162 #[.pointer (some ⟨b, 0, none⟩), .int .i64 err] w fun e w' => e = .returned (outV (.slice none 0 0) on wait next age err ⟨#[]⟩ (-1)) ∧ Below w.heap.size w w' := by
  have HD := hide h
  clear h
  go_enter Tryz.func162, Tryz.ntmps162
  go_wp2_with fail
  refine (devStill_any ((unhide HD).alloc _)).mono ?_
  rintro e w1 ⟨rfl, hb1⟩
  obtain ⟨k1, hs1, hb⟩ := blk1 hb1
  obtain ⟨hx1, hf1⟩ := block_facts k1
  have HB := hide hb
  clear hb hb1 k1
  have l1 : w.heap.size < w1.heap.size := (by omega); have n1 : ¬ w.heap.size = w1.heap.size := (by omega)
  go_wp2
  refine bodyPost_ret (v := outV (.slice none 0 0) on wait next age err ⟨#[]⟩ (-1)) (by simp [results, Tryz.results162, go_sem, hx1, l1]) rfl ⟨rfl, ?_⟩
  repeat (first | with_reducible exact unhide HB | with_reducible exact Below.refl _ _ | with_reducible refine bdrew ?_ | (with_reducible refine brow ?_ ?_; (focus (first | omega | (simp; done) | (simp; omega)))) | (with_reducible refine bset ?_ ?_; (focus (first | omega | (simp; done) | (simp; omega)))) | (with_reducible refine balloc ?_ ?_; (focus (first | omega | (simp; done) | (simp; omega)))) | (with_reducible refine bvia (unhide HB1) ?_ ?_; (focus (first | omega | (simp; done) | (simp; omega)))) | (with_reducible refine bvia (unhide HB2) ?_ ?_; (focus (first | omega | (simp; done) | (simp; omega)))) | (with_reducible refine bvia (unhide HB3) ?_ ?_; (focus (first | omega | (simp; done) | (simp; omega)))) | (with_reducible refine bvia (unhide HB4) ?_ ?_; (focus (first | omega | (simp; done) | (simp; omega)))) | (with_reducible refine bvia (unhide HB5) ?_ ?_; (focus (first | omega | (simp; done) | (simp; omega)))) | (with_reducible refine bvia (unhide HB6) ?_ ?_; (focus (first | omega | (simp; done) | (simp; omega)))))
/-- a row of one page that is to be written -/
theorem own_one {W : World} {base g : Nat} {y : GW} (hg : W.heap[g]? = some (.cells #[.int .i64 (y.1 : Int), .string y.2] 136 (0, 0))) (hb : base ≤ g) : W.ownsRow base 136 2 (.slice (some ⟨g, 0, none⟩) 1 1) 1 (gwCells [y]) :=
  ⟨rfl, .inr ⟨g, 1, _, rfl, hb, hg, Nat.le_refl _, by unfold maxLen; omega, rfl, rfl⟩⟩
set_option maxRecDepth 10000 in
set_option maxHeartbeats 400000 in
theorem devRecorded_any (h : DevAt w b t key F on wait next age) (pg num kp ph tr s0 v0 s1 v1 th : Nat) (h0 : num < 256) (h1 : kp < 256) (h2 : ph < 256) (h3 : tr < 256) (h4 : s0 < 256) (h5 : s1 < 256) (h6 : v0 ≤ 65535) (h7 : v1 ≤ 65535) (h8 : th < 256) :
    Calls Tryz.prog 169 #[.pointer (some ⟨b, 0, none⟩), recV pg num kp ph tr s0 v0 s1 v1 th] w fun e w' => ∃ g, e = .returned (outV (.slice (some ⟨g, 0, none⟩) 1 1) on wait next age 0 ⟨#[]⟩ (-1)) ∧ w'.ownsRow w.heap.size 136 2 (.slice (some ⟨g, 0, none⟩) 1 1) 1 (gwCells [(pg, recP num kp ph tr s0 v0 s1 v1 th)]) ∧ Below w.heap.size w w' := by
  have HD := hide h
  have HW := hide (fun W => written_any pg num kp ph tr s0 v0 s1 v1 th W h0 h1 h2 h3 h4 h5 h6 h7 h8)
  clear h
  go_enter Tryz.func169, Tryz.ntmps169
  go_wp2_with fail
  refine (devStill_any (((unhide HD).alloc _).alloc _)).mono ?_
  rintro e w1 ⟨rfl, hb1⟩
  obtain ⟨k1, k2, hs1, hb⟩ := blk2 hb1
  obtain ⟨hx1, hf1⟩ := block_facts k1
  have K2 := hide k2
  have HB := hide hb
  clear hb hb1 k1 k2
  have l1 : w.heap.size < w1.heap.size := (by omega); have n1 : ¬ w.heap.size = w1.heap.size := (by omega)
  have l2 : w.heap.size + 1 < w1.heap.size := (by omega); have n2 : ¬ w.heap.size + 1 = w1.heap.size := (by omega)
  go_wp2_with fail
  refine (unhide HW _).mono ?_
  rintro e w2 ⟨rfl, hb2⟩
  clear hx1 hf1
  generalize hT : recP num kp ph tr s0 v0 s1 v1 th = T at *
  have HT := hide hT
  clear hT
  obtain ⟨hx2, hf2⟩ := block_facts (kept_block hb2 (alloc_block (unhide K2) _))
  obtain ⟨k3, hs2, hb⟩ := blk1 hb2
  obtain ⟨hx3, hf3⟩ := block_facts k3
  have HB2 := hide hb
  clear hb hb2 k3 K2
  have l3 : w1.heap.size < w2.heap.size := (by omega); have n3 : ¬ w1.heap.size = w2.heap.size := (by omega)
  have l4 : w.heap.size + 1 < w2.heap.size := (by omega); have n4 : ¬ w.heap.size + 1 = w2.heap.size := (by omega)
  go_wp2
  refine bodyPost_ret (v := outV (.slice (some ⟨w2.heap.size, 0, none⟩) 1 1) on wait next age 0 ⟨#[]⟩ (-1)) (by simp [results, Tryz.results169, go_sem, hx2, l4]) rfl ⟨w2.heap.size, rfl, ?_, ?_⟩
  · rw [HT.out]
    refine own_one (y := (pg, T)) ?_ (by omega)
    repeat (first | with_reducible exact unhide HB | (with_reducible refine lblk ?_; (focus (first | rfl | (simp; done)))) | with_reducible refine ablk ?_ | with_reducible refine drew_block ?_ | (with_reducible refine sblk ?_ ?_; (focus (first | omega | (simp; done) | (simp; omega)))))
  · repeat (first | with_reducible exact unhide HB | with_reducible exact Below.refl _ _ | with_reducible refine bdrew ?_ | (with_reducible refine brow ?_ ?_; (focus (first | omega | (simp; done) | (simp; omega)))) | (with_reducible refine bset ?_ ?_; (focus (first | omega | (simp; done) | (simp; omega)))) | (with_reducible refine balloc ?_ ?_; (focus (first | omega | (simp; done) | (simp; omega)))) | (with_reducible refine bvia (unhide HB1) ?_ ?_; (focus (first | omega | (simp; done) | (simp; omega)))) | (with_reducible refine bvia (unhide HB2) ?_ ?_; (focus (first | omega | (simp; done) | (simp; omega)))) | (with_reducible refine bvia (unhide HB3) ?_ ?_; (focus (first | omega | (simp; done) | (simp; omega)))) | (with_reducible refine bvia (unhide HB4) ?_ ?_; (focus (first | omega | (simp; done) | (simp; omega)))) | (with_reducible refine bvia (unhide HB5) ?_ ?_; (focus (first | omega | (simp; done) | (simp; omega)))) | (with_reducible refine bvia (unhide HB6) ?_ ?_; (focus (first | omega | (simp; done) | (simp; omega)))))
set_option maxRecDepth 10000 in
theorem devEager_any (h : DevAt w b t key F on wait next age) (ao : Option Addr) (n cap : Nat) :
    Calls Tryz.prog 166 #[.pointer (some ⟨b, 0, none⟩), .slice ao n cap] w fun e w' => e = .returned (outV (.slice ao n cap) on 0 1 age 0 ⟨#[]⟩ (-1)) ∧ Below w.heap.size w w' := by
  have HD := hide h
  clear h
  go_enter Tryz.func166, Tryz.ntmps166
  go_wp2_with fail
  refine (devStill_any ((unhide HD).alloc _)).mono ?_
  rintro e w1 ⟨rfl, hb1⟩
  obtain ⟨k1, hs1, hb⟩ := blk1 hb1
  obtain ⟨hx1, hf1⟩ := block_facts k1
  have HB := hide hb
  clear hb hb1 k1
  have l1 : w.heap.size < w1.heap.size := (by omega); have n1 : ¬ w.heap.size = w1.heap.size := (by omega)
  go_wp2
  refine bodyPost_ret (v := outV (.slice ao n cap) on 0 1 age 0 ⟨#[]⟩ (-1)) (by simp [results, Tryz.results166, go_sem, hx1, l1]) rfl ⟨rfl, ?_⟩
  repeat (first | with_reducible exact unhide HB | with_reducible exact Below.refl _ _ | with_reducible refine bdrew ?_ | (with_reducible refine brow ?_ ?_; (focus (first | omega | (simp; done) | (simp; omega)))) | (with_reducible refine bset ?_ ?_; (focus (first | omega | (simp; done) | (simp; omega)))) | (with_reducible refine balloc ?_ ?_; (focus (first | omega | (simp; done) | (simp; omega)))) | (with_reducible refine bvia (unhide HB1) ?_ ?_; (focus (first | omega | (simp; done) | (simp; omega)))) | (with_reducible refine bvia (unhide HB2) ?_ ?_; (focus (first | omega | (simp; done) | (simp; omega)))) | (with_reducible refine bvia (unhide HB3) ?_ ?_; (focus (first | omega | (simp; done) | (simp; omega)))) | (with_reducible refine bvia (unhide HB4) ?_ ?_; (focus (first | omega | (simp; done) | (simp; omega)))) | (with_reducible refine bvia (unhide HB5) ?_ ?_; (focus (first | omega | (simp; done) | (simp; omega)))) | (with_reducible refine bvia (unhide HB6) ?_ ?_; (focus (first | omega | (simp; done) | (simp; omega)))))
theorem devLonger_any (n : Nat) (w : World) (hn : n ≤ 1000) :
    Calls Tryz.prog 186 #[.int .i64 n] w fun e w' => e = .returned (.int .i64 (min 8 (2 * n) : Nat)) ∧ w = w' := by
  by_cases h : 8 < 2 * n
  · have h1 : (8 : Int) < 2 * (n : Int) := by omega
    go_enter Tryz.func186, Tryz.ntmps186
    go_wp2
    go_ret
    exact ⟨ret_int (by omega), rfl⟩
  · have h1 : ¬ (8 : Int) < 2 * (n : Int) := by omega
    go_enter Tryz.func186, Tryz.ntmps186
    go_wp2
    go_ret
    exact ⟨ret_int (by omega), rfl⟩
theorem devFailed_any (e : Int) (w : World) :
    Calls Tryz.prog 108 #[.int .i64 e] w fun x w' => x = .returned (.agg #[.int .i64 e, .int .i64 0, .string ⟨#[]⟩, .int .i64 (-1)]) ∧ Below w.heap.size w w' := by
  go_enter Tryz.func108, Tryz.ntmps108
  go_wp2
  refine bodyPost_ret (v := .agg #[.int .i64 e, .int .i64 0, .string ⟨#[]⟩, .int .i64 (-1)]) (by simp [results, Tryz.results108, go_sem]) rfl ⟨rfl, ?_⟩
  repeat (first | with_reducible exact unhide HB | with_reducible exact Below.refl _ _ | with_reducible refine bdrew ?_ | (with_reducible refine brow ?_ ?_; (focus (first | omega | (simp; done) | (simp; omega)))) | (with_reducible refine bset ?_ ?_; (focus (first | omega | (simp; done) | (simp; omega)))) | (with_reducible refine balloc ?_ ?_; (focus (first | omega | (simp; done) | (simp; omega)))) | (with_reducible refine bvia (unhide HB1) ?_ ?_; (focus (first | omega | (simp; done) | (simp; omega)))) | (with_reducible refine bvia (unhide HB2) ?_ ?_; (focus (first | omega | (simp; done) | (simp; omega)))) | (with_reducible refine bvia (unhide HB3) ?_ ?_; (focus (first | omega | (simp; done) | (simp; omega)))) | (with_reducible refine bvia (unhide HB4) ?_ ?_; (focus (first | omega | (simp; done) | (simp; omega)))) | (with_reducible refine bvia (unhide HB5) ?_ ?_; (focus (first | omega | (simp; done) | (simp; omega)))) | (with_reducible refine bvia (unhide HB6) ?_ ?_; (focus (first | omega | (simp; done) | (simp; omega)))))
end
/-- an outcome in memory is what a plan says -/
def resW (x : M.Wr) : Nat × (Fin 16 → Nat) := (x.1, fun i => x.2 i)
def OutIs (w0 : World) (p : M.Plan) (e : Ending) (w' : World) : Prop :=
  ∃ (ao : Option Addr) (cap : Nat) (l : List GW), e = .returned (outV (.slice ao l.length cap) p.on p.wait p.next p.age p.err p.text p.ask) ∧
    w'.ownsRow w0.heap.size 136 2 (.slice ao l.length cap) l.length (gwCells l) ∧ (∀ a ∈ l, a.1 < 23 ∧ a.2.size ≤ maxLen) ∧ l.length ≤ 20 ∧ (gwsOf l).map resW = p.ws.map resW ∧ Below w0.heap.size w0 w'
theorem put_res {x y : M.Wr} (h : resW x = resW y) {t : Nat} (ht : t ≤ 16) (F : Nat → Nat) : M.put F x.1 x.2 t = M.put F y.1 y.2 t := by
  have h1 : x.1 = y.1 := by have := congrArg Prod.fst h; exact this
  have h2 : ∀ i, i < 16 → x.2 i = y.2 i := fun i hi => by have := congrFun (congrArg Prod.snd h) ⟨i, hi⟩; exact this
  funext j
  unfold M.put
  rw [h1]
  by_cases hc : 16 * y.1 ≤ j ∧ j < 16 * y.1 + t
  · rw [if_pos hc, if_pos hc, h2 _ (by omega)]
  · rw [if_neg hc, if_neg hc]
theorem puts_res {l r : List M.Wr} (h : l.map resW = r.map resW) (F : Nat → Nat) : M.puts F l = M.puts F r := by
  induction l generalizing r F with
  | nil =>
    cases r with
    | nil => rfl
    | cons y r => simp at h
  | cons x l ih =>
    cases r with
    | nil => simp at h
    | cons y r =>
      rw [List.map_cons, List.map_cons] at h
      have h1 := (List.cons.inj h).1
      have h2 := (List.cons.inj h).2
      rw [M.puts_cons, M.puts_cons, put_res h1 (Nat.le_refl _), ih h2]
theorem length_res {l r : List M.Wr} (h : l.map resW = r.map resW) : l.length = r.length := by
  have := congrArg List.length h
  simpa using this
theorem cut_res {l r : List M.Wr} (h : l.map resW = r.map resW) (F : Nat → Nat) (c : Nat) {t : Nat} (ht : t ≤ 16) : M.cutAt F l c t = M.cutAt F r c t := by
  have hl := length_res h
  by_cases hc : c < l.length
  · rw [M.cutAt_in hc, M.cutAt_in (by omega)]
    have h1 : (l.take c).map resW = (r.take c).map resW := by rw [List.map_take, List.map_take, h]
    rw [puts_res h1]
    refine put_res ?_ ht _
    have e1 : (l.map resW)[c]? = some (resW l[c]) := by simp [hc]
    have e2 : (r.map resW)[c]? = some (resW (r[c]'(by omega))) := by simp [show c < r.length by omega]
    rw [h, e2] at e1
    exact (Option.some.inj e1).symm
  · rw [M.cutAt_all (by omega), M.cutAt_all (by omega)]
    exact puts_res h F
/-- nothing is written -/
theorem out_none {w0 w' : World} {p : M.Plan} {v : Value} (hv : v = outV (.slice none 0 0) p.on p.wait p.next p.age p.err p.text p.ask) (hp : p.ws = []) (hb : Below w0.heap.size w0 w') : OutIs w0 p (.returned v) w' :=
  ⟨none, 0, [], congrArg Ending.returned hv, World.ownsRow_nil _ _ _ _, (fun a ha => by cases ha), by show 0 ≤ 20; omega, by rw [hp]; rfl, hb⟩
end Go.Proofs.YtjfmiomopfjecabGreat

/- The events of a device over the numbers of its record. -/
namespace Go.Proofs.YtjfmiomopfjecabGreat
open Go.RowKit Go.Lib

def OutRaw (w0 : World) (on : Bool) (wait next age : Nat) (err : Int) (text : ByteArray) (ask : Int) (l : List GW) (e : Ending) (w' : World) : Prop :=
  ∃ (ao : Option Addr) (cap : Nat), e = .returned (outV (.slice ao l.length cap) on wait next age err text ask) ∧ w'.ownsRow w0.heap.size 136 2 (.slice ao l.length cap) l.length (gwCells l) ∧ Below w0.heap.size w0 w'
def RecOk (pg num kp ph tr s0 v0 s1 v1 th : Nat) : Prop := pg ≤ 1 ∧ num < 256 ∧ kp ≤ 1 ∧ ph < 256 ∧ tr < 256 ∧ s0 < 256 ∧ v0 ≤ 65535 ∧ s1 < 256 ∧ v1 ≤ 65535 ∧ th < 256
theorem raw_none {w0 w' : World} {on : Bool} {wait next age : Nat} {err : Int} {text : ByteArray} {ask : Int} {v : Value} (hv : v = outV (.slice none 0 0) on wait next age err text ask) (hb : Below w0.heap.size w0 w') : OutRaw w0 on wait next age err text ask [] (.returned v) w' :=
  ⟨none, 0, congrArg Ending.returned hv, World.ownsRow_nil _ _ _ _, hb⟩
theorem written_ok {pg num kp ph tr s0 v0 s1 v1 th : Nat} (h : RecOk pg num kp ph tr s0 v0 s1 v1 th) (w : World) :
    Calls Tryz.prog 75 #[recV pg num kp ph tr s0 v0 s1 v1 th] w fun e w' => e = .returned (.agg #[.int .i64 pg, .string (recP num kp ph tr s0 v0 s1 v1 th)]) ∧ Below w.heap.size w w' := by
  obtain ⟨h0, h1, h2, h3, h4, h5, h6, h7, h8, h9⟩ := h
  exact written_any pg num kp ph tr s0 v0 s1 v1 th w h1 (by omega) h3 h4 h5 h7 h6 h8 h9
theorem recorded_ok {pg num kp ph tr s0 v0 s1 v1 th : Nat} (h : RecOk pg num kp ph tr s0 v0 s1 v1 th) {w : World} {b : Nat} {t : TypeId} {key : ByteArray} {F : Nat → Nat} {on : Bool} {wait next age : Nat} (hd : DevAt w b t key F on wait next age) :
    Calls Tryz.prog 169 #[.pointer (some ⟨b, 0, none⟩), recV pg num kp ph tr s0 v0 s1 v1 th] w fun e w' => ∃ g, e = .returned (outV (.slice (some ⟨g, 0, none⟩) 1 1) on wait next age 0 ⟨#[]⟩ (-1)) ∧ w'.ownsRow w.heap.size 136 2 (.slice (some ⟨g, 0, none⟩) 1 1) 1 (gwCells [(pg, recP num kp ph tr s0 v0 s1 v1 th)]) ∧ Below w.heap.size w w' := by
  obtain ⟨h0, h1, h2, h3, h4, h5, h6, h7, h8, h9⟩ := h
  exact devRecorded_any hd pg num kp ph tr s0 v0 s1 v1 th h1 (by omega) h3 h4 h5 h7 h6 h8 h9
theorem next_ok {pg num kp ph tr s0 v0 s1 v1 th p q k : Nat} (h : RecOk pg num kp ph tr s0 v0 s1 v1 th) (hp : p < 256) (hq : q < 256) (hk : k ≤ 1) {t : Nat} (ht : t < 256) : RecOk (1 - pg) ((num + 1) % 256) k p q s0 v0 s1 v1 t := by
  obtain ⟨h0, h1, h2, h3, h4, h5, h6, h7, h8, h9⟩ := h
  exact ⟨by omega, by omega, hk, hp, hq, h5, h6, h7, h8, ht⟩
/-- an aggregate that is not looked into -/
theorem opaq {f : FuncId} {args : Array Value} {W : World} {c : Array Value} (h : Calls Tryz.prog f args W fun e w' => e = .returned (.agg c) ∧ Below W.heap.size W w') :
    Calls Tryz.prog f args W fun e w' => ∃ C : Array Value, e = .returned (.agg C) ∧ Hid (C = c) ∧ Below W.heap.size W w' := h.mono fun _ _ ⟨a, b⟩ => ⟨c, a, rfl, b⟩
theorem row_in {W : World} {g : Nat} {old C : Array Value} {t : TypeId} {fr : Nat × Nat} (h : W.heap[g]? = some (.cells old t fr)) : (W.setRow g C).heap[g]? = some (.cells C t fr) := by
  unfold World.setRow
  rw [Array.getElem?_modify, if_pos rfl, h]
  rfl
theorem row_else {W : World} {g k : Nat} {C : Array Value} {o : Obj} (hne : ¬ k = g) (h : W.heap[k]? = some o) : (W.setRow g C).heap[k]? = some o := by
  unfold World.setRow
  rw [Array.getElem?_modify, if_neg (fun e => hne e.symm)]
  exact h
theorem row_size (W : World) (g : Nat) (C : Array Value) : (W.setRow g C).heap.size = W.heap.size := by unfold World.setRow; simp
theorem brow {B : Nat} {w W : World} {g : Nat} {C : Array Value} (hle : B ≤ g) (h : Below B w W) : Below B w (W.setRow g C) := setRow_below h hle C
theorem rec_info : (Tryz.prog.info? 133).map (·.size) = some 10 := by kernel_rfl
theorem own_row {W : World} {base g : Nat} {e : TypeId} {size : Nat} {v : Value} {n : Nat} {xs : List Value} (h : W.ownsRow base e size v n xs) (hg : g < base) (C : Array Value) : (W.setRow g C).ownsRow base e size v n xs := by
  refine ⟨h.1, ?_⟩
  rcases h.2 with hn | ⟨k, cap, cur, hv, hb, hk, rest⟩
  · exact .inl hn
  · exact .inr ⟨k, cap, cur, hv, hb, row_else (by omega) hk, rest⟩
theorem out_info : (Tryz.prog.info? 163).map (·.size) = some 8 := by kernel_rfl
section
variable {pg num kp ph tr s0 v0 s1 v1 th : Nat} {w : World} {b : Nat} {t : TypeId} {key : ByteArray} {F : Nat → Nat} {on : Bool} {wait next age : Nat}
set_option maxRecDepth 10000 in
set_option maxHeartbeats 1000000 in
theorem rawBoot_trial (h : RecOk pg num kp 2 tr s0 v0 s1 v1 th) {p q : Nat} (hpq : if tr = 0 then p = 0 ∧ q = 0 else p = 2 ∧ q = tr - 1) :
    Calls Tryz.prog 132 #[recV pg num kp 2 tr s0 v0 s1 v1 th] w fun e w' => OutRaw w true 0 1 0 0 ⟨#[]⟩ (-1) [(1 - pg, recP ((num + 1) % 256) kp p q s0 v0 s1 v1 0)] e w' := by
  have hpq2 : p < 256 ∧ q < 256 := by
    have := h.2.2.2.2.1
    by_cases h0 : tr = 0
    · rw [if_pos h0] at hpq; omega
    · rw [if_neg h0] at hpq; omega
  have HW := hide (fun W => written_ok (next_ok (p := p) (q := q) (k := kp) (t := 0) h hpq2.1 hpq2.2 h.2.2.1 (by omega)) W)
  have HT := hide (fun W => recTried_any pg num kp 2 tr s0 v0 s1 v1 th p q W h.1 h.2.1 h.2.2.2.2.1 hpq)
  clear h hpq hpq2
  go_enter Tryz.func132, Tryz.ntmps132
  go_wp2_with fail
  refine (booted_any _).mono ?_
  rintro e w1 ⟨rfl, hb1⟩
  obtain ⟨k1, k2, hs1, hb⟩ := blk2 hb1
  obtain ⟨hx1, hf1⟩ := block_facts k1
  have K2 := hide k2
  have HB := hide hb
  clear hb hb1 k1 k2
  have l1 : w.heap.size < w1.heap.size := (by omega); have n1 : ¬ w.heap.size = w1.heap.size := (by omega)
  have l2 : w.heap.size + 1 < w1.heap.size := (by omega); have n2 : ¬ w.heap.size + 1 = w1.heap.size := (by omega)
  go_wp2_with fail
  refine (unhide HT _).mono ?_
  rintro e w2 ⟨rfl, hb2⟩
  have k2 := kept_block hb2 (alloc_block (unhide K2) _)
  obtain ⟨k3, hs2, hb⟩ := blk1 hb2
  have K2' := hide k2
  have K3 := hide k3
  have HB2 := hide hb
  clear hb hb2 k2 k3 K2 hx1 hf1
  generalize hN : (num + 1) % 256 = N at *
  generalize hP : 1 - pg = P at *
  have HN := hide hN
  have HP := hide hP
  clear hN hP
  go_wp2_with fail
  refine (unhide HW _).mono ?_
  rintro e w3 ⟨rfl, hb3⟩
  obtain ⟨hx2, hf2⟩ := block_facts (kept_block hb3 (unhide K2'))
  obtain ⟨hx3, hf3⟩ := block_facts (kept_block hb3 (unhide K3))
  have hs3 := hb3.size
  have HB3 := hide hb3
  generalize hT : recP N kp p q s0 v0 s1 v1 0 = T at *
  have HTT := hide hT
  clear hT hb3
  have l3 : w1.heap.size < w3.heap.size := (by omega); have n3 : ¬ w1.heap.size = w3.heap.size := (by omega)
  have l4 : w.heap.size + 1 < w3.heap.size := (by omega); have n4 : ¬ w.heap.size + 1 = w3.heap.size := (by omega)
  go_wp2
  refine bodyPost_ret (v := outV (.slice (some ⟨w3.heap.size, 0, none⟩) 1 1) true 0 1 0 0 ⟨#[]⟩ (-1)) (by simp [results, Tryz.results132, go_sem, hx2, l4]) rfl ⟨some ⟨w3.heap.size, 0, none⟩, 1, rfl, ?_, ?_⟩
  · rw [HN.out, HP.out, HTT.out]
    refine own_one (y := (P, T)) ?_ (by omega)
    repeat (first | with_reducible exact unhide HB | (with_reducible refine lblk ?_; (focus (first | rfl | (simp; done)))) | with_reducible refine ablk ?_ | with_reducible refine drew_block ?_ | (with_reducible refine sblk ?_ ?_; (focus (first | omega | (simp; done) | (simp; omega)))))
  · repeat (first | with_reducible exact unhide HB | with_reducible exact Below.refl _ _ | with_reducible refine bdrew ?_ | (with_reducible refine brow ?_ ?_; (focus (first | omega | (simp; done) | (simp; omega)))) | (with_reducible refine bset ?_ ?_; (focus (first | omega | (simp; done) | (simp; omega)))) | (with_reducible refine balloc ?_ ?_; (focus (first | omega | (simp; done) | (simp; omega)))) | (with_reducible refine bvia (unhide HB1) ?_ ?_; (focus (first | omega | (simp; done) | (simp; omega)))) | (with_reducible refine bvia (unhide HB2) ?_ ?_; (focus (first | omega | (simp; done) | (simp; omega)))) | (with_reducible refine bvia (unhide HB3) ?_ ?_; (focus (first | omega | (simp; done) | (simp; omega)))) | (with_reducible refine bvia (unhide HB4) ?_ ?_; (focus (first | omega | (simp; done) | (simp; omega)))) | (with_reducible refine bvia (unhide HB5) ?_ ?_; (focus (first | omega | (simp; done) | (simp; omega)))) | (with_reducible refine bvia (unhide HB6) ?_ ?_; (focus (first | omega | (simp; done) | (simp; omega)))))
set_option maxRecDepth 10000 in
theorem rawBoot_else (hp : ph ≠ 2) :
    Calls Tryz.prog 132 #[recV pg num kp ph tr s0 v0 s1 v1 th] w fun e w' => OutRaw w true 0 1 0 0 ⟨#[]⟩ (-1) [] e w' := by
  have hp2 : ¬ (ph : Int) = 2 := by omega
  go_enter Tryz.func132, Tryz.ntmps132
  go_wp2_with fail
  refine (booted_any _).mono ?_
  rintro e w1 ⟨rfl, hb1⟩
  obtain ⟨k1, k2, hs1, hb⟩ := blk2 hb1
  obtain ⟨hx1, hf1⟩ := block_facts k1
  obtain ⟨hx2, hf2⟩ := block_facts k2
  have HB := hide hb
  clear hb hb1 k1 k2
  have l1 : w.heap.size < w1.heap.size := (by omega); have n1 : ¬ w.heap.size = w1.heap.size := (by omega)
  have l2 : w.heap.size + 1 < w1.heap.size := (by omega); have n2 : ¬ w.heap.size + 1 = w1.heap.size := (by omega)
  go_wp2
  refine bodyPost_ret (v := outV (.slice none 0 0) true 0 1 0 0 ⟨#[]⟩ (-1)) (by simp [results, Tryz.results132, go_sem, hx2, l2]) rfl (raw_none rfl ?_)
  repeat (first | with_reducible exact unhide HB | with_reducible exact Below.refl _ _ | with_reducible refine bdrew ?_ | (with_reducible refine brow ?_ ?_; (focus (first | omega | (simp; done) | (simp; omega)))) | (with_reducible refine bset ?_ ?_; (focus (first | omega | (simp; done) | (simp; omega)))) | (with_reducible refine balloc ?_ ?_; (focus (first | omega | (simp; done) | (simp; omega)))) | (with_reducible refine bvia (unhide HB1) ?_ ?_; (focus (first | omega | (simp; done) | (simp; omega)))) | (with_reducible refine bvia (unhide HB2) ?_ ?_; (focus (first | omega | (simp; done) | (simp; omega)))) | (with_reducible refine bvia (unhide HB3) ?_ ?_; (focus (first | omega | (simp; done) | (simp; omega)))) | (with_reducible refine bvia (unhide HB4) ?_ ?_; (focus (first | omega | (simp; done) | (simp; omega)))) | (with_reducible refine bvia (unhide HB5) ?_ ?_; (focus (first | omega | (simp; done) | (simp; omega)))) | (with_reducible refine bvia (unhide HB6) ?_ ?_; (focus (first | omega | (simp; done) | (simp; omega)))))
set_option maxRecDepth 10000 in
theorem rawConfirm_no (hd : DevAt w b t key F on wait next age) (hp : ph ≠ 2) :
    Calls Tryz.prog 137 #[.pointer (some ⟨b, 0, none⟩), recV pg num kp ph tr s0 v0 s1 v1 th] w fun e w' => OutRaw w on wait next age 12 ⟨#[]⟩ (-1) [] e w' := by
  have hp2 : ((ph : Int) != 2) = true := by simp; omega
  have HD := hide hd
  clear hd
  go_enter Tryz.func137, Tryz.ntmps137
  go_wp2_with fail
  refine (devFault_any (((unhide HD).alloc _).alloc _) 12).mono ?_
  rintro e w1 ⟨rfl, hb1⟩
  obtain ⟨k1, k2, hs1, hb⟩ := blk2 hb1
  obtain ⟨hx2, hf2⟩ := block_facts k2
  have HB := hide hb
  clear hb hb1 k1 k2
  have l2 : w.heap.size + 1 < w1.heap.size := (by omega); have n2 : ¬ w.heap.size + 1 = w1.heap.size := (by omega)
  go_wp2
  refine bodyPost_ret (v := outV (.slice none 0 0) on wait next age 12 ⟨#[]⟩ (-1)) (by simp [results, Tryz.results137, go_sem, hx2]) rfl (raw_none rfl ?_)
  repeat (first | with_reducible exact unhide HB | with_reducible exact Below.refl _ _ | with_reducible refine bdrew ?_ | (with_reducible refine brow ?_ ?_; (focus (first | omega | (simp; done) | (simp; omega)))) | (with_reducible refine bset ?_ ?_; (focus (first | omega | (simp; done) | (simp; omega)))) | (with_reducible refine balloc ?_ ?_; (focus (first | omega | (simp; done) | (simp; omega)))) | (with_reducible refine bvia (unhide HB1) ?_ ?_; (focus (first | omega | (simp; done) | (simp; omega)))) | (with_reducible refine bvia (unhide HB2) ?_ ?_; (focus (first | omega | (simp; done) | (simp; omega)))) | (with_reducible refine bvia (unhide HB3) ?_ ?_; (focus (first | omega | (simp; done) | (simp; omega)))) | (with_reducible refine bvia (unhide HB4) ?_ ?_; (focus (first | omega | (simp; done) | (simp; omega)))) | (with_reducible refine bvia (unhide HB5) ?_ ?_; (focus (first | omega | (simp; done) | (simp; omega)))) | (with_reducible refine bvia (unhide HB6) ?_ ?_; (focus (first | omega | (simp; done) | (simp; omega)))))
set_option maxRecDepth 10000 in
set_option maxHeartbeats 1000000 in
theorem rawConfirm_yes (hd : DevAt w b t key F on wait next age) (h : RecOk pg num kp 2 tr s0 v0 s1 v1 th) :
    Calls Tryz.prog 137 #[.pointer (some ⟨b, 0, none⟩), recV pg num kp 2 tr s0 v0 s1 v1 th] w fun e w' => OutRaw w on wait next age 0 ⟨#[]⟩ (-1) [(1 - pg, recP ((num + 1) % 256) (1 - kp) 0 0 s0 v0 s1 v1 0)] e w' := by
  have HD := hide hd
  have HC := hide (fun W => recConfirmed_any pg num kp 2 tr s0 v0 s1 v1 th W h.1 h.2.1 h.2.2.1)
  have HR := hide (fun (W : World) (hW : DevAt W b t key F on wait next age) => recorded_ok (next_ok (p := 0) (q := 0) (k := 1 - kp) (t := 0) h (by omega) (by omega) (by omega) (by omega)) hW)
  clear hd h
  go_enter Tryz.func137, Tryz.ntmps137
  go_wp2_with fail
  refine (unhide HC _).mono ?_
  rintro e w1 ⟨rfl, hb1⟩
  obtain ⟨k1, k2, hs1, hb⟩ := blk2 hb1
  have HD1 := hide ((((unhide HD).alloc _).alloc _).kept hb1)
  have K2 := hide k2
  have HB1 := hide hb
  clear hb hb1 k1 k2
  go_wp2_with fail
  refine (unhide HR _ (unhide HD1)).mono ?_
  rintro e w2 ⟨g, rfl, hown, hb2⟩
  obtain ⟨hx2, hf2⟩ := block_facts (kept_block hb2 (unhide K2))
  have hs2 := hb2.size
  have HO : Hid (w2.ownsRow w1.heap.size 136 2 (.slice (some ⟨g, 0, none⟩) 1 1) 1 (gwCells [(1 - pg, recP ((num + 1) % 256) (1 - kp) 0 0 s0 v0 s1 v1 0)])) := hown
  have HB2 := hide hb2
  clear hown hb2
  have l2 : w.heap.size + 1 < w2.heap.size := (by omega); have n2 : ¬ w.heap.size + 1 = w2.heap.size := (by omega)
  go_wp2
  refine bodyPost_ret (v := outV (.slice (some ⟨g, 0, none⟩) 1 1) on wait next age 0 ⟨#[]⟩ (-1)) (by simp [results, Tryz.results137, go_sem, hx2]) rfl ⟨some ⟨g, 0, none⟩, 1, rfl, ?_, ?_⟩
  · refine ownsRow_base (base' := w1.heap.size) ?_ (by omega)
    iterate 8 refine ownsRow_setCell_below ?_ (by show w.heap.size + 1 < w1.heap.size; omega) _
    exact unhide HO
  · repeat (first | with_reducible exact unhide HB | with_reducible exact Below.refl _ _ | with_reducible refine bdrew ?_ | (with_reducible refine brow ?_ ?_; (focus (first | omega | (simp; done) | (simp; omega)))) | (with_reducible refine bset ?_ ?_; (focus (first | omega | (simp; done) | (simp; omega)))) | (with_reducible refine balloc ?_ ?_; (focus (first | omega | (simp; done) | (simp; omega)))) | (with_reducible refine bvia (unhide HB1) ?_ ?_; (focus (first | omega | (simp; done) | (simp; omega)))) | (with_reducible refine bvia (unhide HB2) ?_ ?_; (focus (first | omega | (simp; done) | (simp; omega)))) | (with_reducible refine bvia (unhide HB3) ?_ ?_; (focus (first | omega | (simp; done) | (simp; omega)))) | (with_reducible refine bvia (unhide HB4) ?_ ?_; (focus (first | omega | (simp; done) | (simp; omega)))) | (with_reducible refine bvia (unhide HB5) ?_ ?_; (focus (first | omega | (simp; done) | (simp; omega)))) | (with_reducible refine bvia (unhide HB6) ?_ ?_; (focus (first | omega | (simp; done) | (simp; omega)))))
end
end Go.Proofs.YtjfmiomopfjecabGreat

/- What a device holds: its record, its manifest, its images. -/
namespace Go.Proofs.YtjfmiomopfjecabGreat
open Go.RowKit Go.Lib

theorem page_bz {F : Nat → Nat} (hF : ∀ j, F j < 256) {p : Nat} (hp : p < 23) {i : Nat} (hi : i < 16) : M.bz (pageT F p) i = F (16 * p + i) := by
  unfold pageT
  rw [if_pos ⟨by omega, by omega⟩, Int.toNat_natCast]
  exact M.bz_mk (fun _ _ => hF _) hi
theorem page_size (F : Nat → Nat) (i : Int) : (pageT F i).size ≤ 16 := by
  unfold pageT
  split
  · rw [M.mk_size]; omega
  · show 0 ≤ 16; omega
theorem recT_is {F : Nat → Nat} (hF : ∀ j, F j < 256) {p : Nat} (hp : p < 23) : recT p (pageT F p) = recV p (F (16 * p)) (F (16 * p + 1)) (F (16 * p + 2)) (F (16 * p + 3)) (F (16 * p + 4)) (256 * F (16 * p + 6) + F (16 * p + 7) : Nat) (F (16 * p + 5)) (256 * F (16 * p + 8) + F (16 * p + 9) : Nat) (F (16 * p + 10)) := by
  unfold recT
  rw [page_bz hF hp (by omega), page_bz hF hp (by omega), page_bz hF hp (by omega), page_bz hF hp (by omega), page_bz hF hp (by omega), page_bz hF hp (by omega), page_bz hF hp (by omega), page_bz hF hp (by omega), page_bz hF hp (by omega), page_bz hF hp (by omega), page_bz hF hp (by omega), Nat.mul_comm 256, Nat.mul_comm 256, Nat.add_zero]
theorem stand_is {F : Nat → Nat} (hF : ∀ j, F j < 256) : standT (pageT F 0) (pageT F 1) = recF F := by
  have h0 : ∀ i, i < 16 → M.bz (pageT F 0) i = F i := fun i hi => by
    have := page_bz hF (p := 0) (by omega) hi
    rw [Nat.mul_zero, Nat.zero_add] at this
    exact this
  have h1 : ∀ i, i < 16 → M.bz (pageT F 1) i = F (16 + i) := fun i hi => page_bz hF (p := 1) (by omega) hi
  have e : followsB (pageT F 0) (pageT F 1) = decide (F 16 = F 31 ∧ (F 0 ≠ F 15 ∨ F 16 = (F 0 + 1) % 256)) := by
    unfold followsB
    rw [h0 0 (by omega), h0 15 (by omega), h1 0 (by omega), h1 15 (by omega)]
  unfold standT
  rw [e]
  by_cases hc : F 16 = F 31 ∧ (F 0 ≠ F 15 ∨ F 16 = (F 0 + 1) % 256)
  · have hr : M.recAt F = 1 := if_pos hc
    rw [if_pos (decide_eq_true hc)]
    have := recT_is hF (p := 1) (by omega)
    refine Eq.trans this ?_
    unfold recF M.verOf M.fld
    rw [hr]
  · have hr : M.recAt F = 0 := if_neg hc
    rw [if_neg (by rw [decide_eq_false hc]; simp)]
    have := recT_is hF (p := 0) (by omega)
    refine Eq.trans this ?_
    unfold recF M.verOf M.fld
    rw [hr]
section
variable {w : World} {b : Nat} {t : TypeId} {key : ByteArray} {F : Nat → Nat} {on : Bool} {wait next age : Nat}
set_option maxRecDepth 10000 in
theorem devRecord_any (h : DevAt w b t key F on wait next age) (hF : ∀ j, F j < 256) :
    Calls Tryz.prog 80 #[.pointer (some ⟨b, 0, none⟩)] w fun e w' => e = .returned (recF F) ∧ Below w.heap.size w w' := by
  have hlt := h.lt
  have HD : Hid (DevAt (w.alloc (.cells #[.int .i64 0, .int .i64 0, .int .i64 0, .int .i64 0, .int .i64 0, .int .i64 0, .int .i64 0, .int .i64 0, .int .i64 0, .int .i64 0] 133)) b t key F on wait next age) := h.mono ((Below.refl _ _).alloc (Nat.le_refl _) _) hlt
  have HS := hide (stand_is hF)
  clear h
  go_enter Tryz.func80, Tryz.ntmps80
  go_wp2_with fail
  refine (flashPage_any (unhide HD) hF 0).mono ?_
  rintro e w' ⟨rfl, rfl⟩
  go_wp2_with fail
  refine (flashPage_any (unhide HD) hF 1).mono ?_
  rintro e w' ⟨rfl, rfl⟩
  have p0 := page_size F 0
  have p1 := page_size F 1
  go_wp2_with fail
  refine (recStanding_any _ _ _ (by unfold maxLen; omega) (by unfold maxLen; omega)).mono ?_
  rintro e w1 ⟨rfl, hb⟩
  rw [HS.out]
  clear p0 p1
  have HB : Hid (Below w.heap.size w w1) := one_alloc (hb.mono (by simp))
  obtain ⟨hz, hfz⟩ := block_facts ((hb.block w.heap.size (by simp)).trans (last_block _ _ rfl))
  clear hb
  generalize pageT F 0 = A at *
  generalize pageT F 1 = A2 at *
  go_wp2
  refine bodyPost_ret (v := recF F) (by simp [results, Tryz.results80, go_sem, hz]) rfl ⟨rfl, ?_⟩
  iterate 10 refine Below.setCell ?_ (by simp) _
  exact unhide HB
theorem bz_mf {F : Nat → Nat} (hF : ∀ j, F j < 256) {j : Nat} (hj : j < 48) : M.bz (M.mk 48 fun j => F (16 * 2 + j)) j = M.mf F j := M.bz_mk (fun _ _ => hF _) hj
theorem seal_congr {g g' : Nat → Nat} (h : ∀ j, j < 48 → g' j = g j) : M.sealX g' = M.sealX g := by
  unfold M.sealX
  rw [h 4 (by omega), h 5 (by omega)]
  by_cases h1 : g 4 < 1 ∨ 96 < g 4 ∨ g 5 < 1 ∨ 96 < g 5
  · rw [if_pos h1, if_pos h1]
  · have hc : M.chunksN (g 4) ≤ 6 := by unfold M.chunksN; omega
    rw [h (8 + 2 * M.chunksN (g 4)) (by omega), h (9 + 2 * M.chunksN (g 4)) (by omega), h (10 + 2 * M.chunksN (g 4)) (by omega)]
theorem man_congr {g g' : Nat → Nat} {v : Value} {at_ : Nat} (h : ∀ j, j < 48 → g' j = g j) (hs : M.sealX g = some at_) : manOf g' v = manOf g v ∧ M.sumsL g' (M.chunksN (g' 4)) = M.sumsL g (M.chunksN (g 4)) := by
  have hle := M.sealX_le hs
  have hc := hle.2.2.2.2.2.2
  have e4 := h 4 (by omega)
  have e8 := h (8 + 2 * M.chunksN (g 4)) (by omega)
  have e9 := h (9 + 2 * M.chunksN (g 4)) (by omega)
  have e10 := h (10 + 2 * M.chunksN (g 4)) (by omega)
  have n0 : M.numAt g' 0 = M.numAt g 0 := by unfold M.numAt; rw [h 0 (by omega), h (0 + 1) (by omega)]
  have n2 : M.numAt g' 2 = M.numAt g 2 := by unfold M.numAt; rw [h 2 (by omega), h (2 + 1) (by omega)]
  have n6 : M.numAt g' 6 = M.numAt g 6 := by unfold M.numAt; rw [h 6 (by omega), h (6 + 1) (by omega)]
  have x1 : M.exB g' = M.exB g := by unfold M.exB; rw [e4, e8]
  have hb : g (8 + 2 * M.chunksN (g 4)) = 1 → g (9 + 2 * M.chunksN (g 4)) ≤ 8 ∧ g (10 + 2 * M.chunksN (g 4)) ≤ 8 := by
    intro ht
    have hs2 := hs
    unfold M.sealX at hs2
    rw [if_neg (by omega), if_neg (by omega), if_pos ht] at hs2
    by_cases h5 : 8 < g (9 + 2 * M.chunksN (g 4)) ∨ 8 < g (10 + 2 * M.chunksN (g 4))
    · rw [if_pos h5] at hs2; cases hs2
    · omega
  have x2 : M.exQ g' = M.exQ g := by
    unfold M.exQ
    rw [e4, e8, e9]
    by_cases ht : g (8 + 2 * M.chunksN (g 4)) = 1
    · rw [if_pos ht, if_pos ht]
      have := hb ht
      exact M.mk_congr fun j hj => h _ (by omega)
    · rw [if_neg ht, if_neg ht]
  have x3 : M.exA g' = M.exA g := by
    unfold M.exA
    rw [e4, e8, e9, e10]
    by_cases ht : g (8 + 2 * M.chunksN (g 4)) = 1
    · rw [if_pos ht, if_pos ht]
      have := hb ht
      exact M.mk_congr fun j hj => h _ (by omega)
    · rw [if_neg ht, if_neg ht]
  refine ⟨by unfold manOf; rw [n0, n2, n6, e4, h 5 (by omega), x1, x2, x3], ?_⟩
  rw [e4]
  unfold M.sumsL
  refine List.map_congr_left fun i hi => ?_
  rw [List.mem_range] at hi
  unfold M.numAt
  rw [h (8 + 2 * i) (by omega), h (8 + 2 * i + 1) (by omega)]
set_option maxRecDepth 10000 in
theorem devManifest_any (h : DevAt w b t key F on wait next age) (hF : ∀ j, F j < 256) {at_ : Nat} (hs : M.sealX (M.mf F) = some at_) :
    Calls Tryz.prog 83 #[.pointer (some ⟨b, 0, none⟩)] w fun e w' => ∃ ao cap, e = .returned (manOf (M.mf F) (.slice ao (M.chunksN (M.mf F 4)) cap)) ∧ w'.ownsRow (w.heap.size + 1) 3 1 (.slice ao (M.chunksN (M.mf F 4)) cap) (M.chunksN (M.mf F 4)) (intCells (M.sumsL (M.mf F) (M.chunksN (M.mf F 4)))) ∧ Below w.heap.size w w' := by
  have HD := hide h
  have HMC := hide (fun v : Value => man_congr (v := v) (g := M.mf F) (g' := M.bz (M.mk 48 fun j => F (16 * 2 + j))) (fun j hj => bz_mf hF hj) hs)
  have HE4 := hide (bz_mf hF (j := 4) (by omega))
  have HST := hide (fun W => manStored_any (M.mk 48 fun j => F (16 * 2 + j)) at_ W (by rw [M.mk_size]; unfold maxLen; omega) ((seal_congr (fun j hj => bz_mf hF hj)).trans hs))
  have HFT := hide (flashText_in (h.alloc (.cells #[.int .i64 0, .int .i64 0, .int .i64 0, .int .i64 0, .int .i64 0, .slice none 0 0, .bool false, .string ⟨#[]⟩, .string ⟨#[]⟩] 143)) hF 2 48 2 48 (by omega) (by omega) rfl rfl)
  clear h hs
  go_enter Tryz.func83, Tryz.ntmps83
  go_wp2_with fail
  refine (unhide HFT).mono ?_
  rintro e w' ⟨rfl, rfl⟩
  go_wp2_with fail
  refine (unhide HST _).mono ?_
  rintro e w1 ⟨ao, cap, rfl, hown, hb1⟩
  rw [HE4.out] at hown
  rw [HE4.out, ((unhide HMC) _).1]
  have e2 := ((unhide HMC) (.slice ao 0 0)).2
  rw [HE4.out] at e2
  rw [e2] at hown
  obtain ⟨k1, hs1, hb⟩ := blk1 hb1
  obtain ⟨hx1, hf1⟩ := block_facts k1
  have HO : Hid (w1.ownsRow (w.heap.size + 1) 3 1 (.slice ao (M.chunksN (M.mf F 4)) cap) (M.chunksN (M.mf F 4)) (intCells (M.sumsL (M.mf F) (M.chunksN (M.mf F 4))))) := ownsRow_base hown (by simp)
  have HB := hide hb
  clear hb hb1 k1 hown e2
  generalize (M.mk 48 fun j => F (16 * 2 + j)) = S at *
  have l1 : w.heap.size < w1.heap.size := (by omega); have n1 : ¬ w.heap.size = w1.heap.size := (by omega)
  go_wp2
  refine bodyPost_ret (v := manOf (M.mf F) (.slice ao (M.chunksN (M.mf F 4)) cap)) (by simp [results, Tryz.results83, go_sem, hx1]) rfl ⟨ao, cap, rfl, ?_, ?_⟩
  · iterate 9 refine ownsRow_setCell_below ?_ (by show w.heap.size < _; omega) _
    exact unhide HO
  · repeat (first | with_reducible exact unhide HB | with_reducible exact Below.refl _ _ | with_reducible refine bdrew ?_ | (with_reducible refine brow ?_ ?_; (focus (first | omega | (simp; done) | (simp; omega)))) | (with_reducible refine bset ?_ ?_; (focus (first | omega | (simp; done) | (simp; omega)))) | (with_reducible refine balloc ?_ ?_; (focus (first | omega | (simp; done) | (simp; omega)))) | (with_reducible refine bvia (unhide HB1) ?_ ?_; (focus (first | omega | (simp; done) | (simp; omega)))) | (with_reducible refine bvia (unhide HB2) ?_ ?_; (focus (first | omega | (simp; done) | (simp; omega)))) | (with_reducible refine bvia (unhide HB3) ?_ ?_; (focus (first | omega | (simp; done) | (simp; omega)))) | (with_reducible refine bvia (unhide HB4) ?_ ?_; (focus (first | omega | (simp; done) | (simp; omega)))) | (with_reducible refine bvia (unhide HB5) ?_ ?_; (focus (first | omega | (simp; done) | (simp; omega)))) | (with_reducible refine bvia (unhide HB6) ?_ ?_; (focus (first | omega | (simp; done) | (simp; omega)))))
end
end Go.Proofs.YtjfmiomopfjecabGreat

/- Events over the numbers of a record: what is asked of an image, time that goes by. -/
namespace Go.Proofs.YtjfmiomopfjecabGreat
open Go.RowKit Go.Lib

def servedN (ph kp : Nat) : Nat := if ph = 2 then 1 - kp else kp
def pickN (i a b : Nat) : Nat := if i = 0 then a else b
theorem recServed_d (pg num kp ph tr s0 v0 s1 v1 th : Nat) (w : World) (hk : kp ≤ 1) :
    Calls Tryz.prog 82 #[recV pg num kp ph tr s0 v0 s1 v1 th] w fun e w' => e = .returned (.int .i64 (servedN ph kp)) ∧ Below w.heap.size w w' := recServed_any pg num kp ph tr s0 v0 s1 v1 th w hk
theorem recSlot_d (pg num kp ph tr s0 v0 s1 v1 th i : Nat) (w : World) :
    Calls Tryz.prog 81 #[recV pg num kp ph tr s0 v0 s1 v1 th, .int .i64 i] w fun e w' => e = .returned (.agg #[.int .i64 (pickN i s0 s1), .int .i64 (pickN i v0 v1)]) ∧ Below w.heap.size w w' := recSlot_any pg num kp ph tr s0 v0 s1 v1 th i w
section
variable {pg num kp ph tr s0 v0 s1 v1 th : Nat} {w : World} {b : Nat} {t : TypeId} {key : ByteArray} {F : Nat → Nat} {on : Bool} {wait next age : Nat}
set_option maxRecDepth 10000 in
set_option maxHeartbeats 1000000 in
theorem devImage_any (hd : DevAt w b t key F on wait next age) (hF : ∀ j, F j < 256) (slot : Nat) (hs : slot ≤ 1) (hn : pickN slot s0 s1 ≤ 96) :
    Calls Tryz.prog 161 #[.pointer (some ⟨b, 0, none⟩), recV pg num kp ph tr s0 v0 s1 v1 th, .int .i64 slot] w fun e w' => e = .returned (.string (M.mk (pickN slot s0 s1) fun j => F (16 * (11 + 6 * slot) + j))) ∧ Below w.heap.size w w' := by
  have HD := hide hd
  have HF := hide hF
  clear hd hF
  go_enter Tryz.func161, Tryz.ntmps161
  go_wp2_with fail
  refine (recSlot_d pg num kp ph tr s0 v0 s1 v1 th slot _).mono ?_
  rintro e w1 ⟨rfl, hb1⟩
  obtain ⟨k1, hs1, hb⟩ := blk1 hb1
  have HD1 := hide (((unhide HD).alloc _).kept hb1)
  have HB := hide hb
  clear hb hb1 k1
  generalize hN : pickN slot s0 s1 = n at *
  generalize pickN slot v0 v1 = v at *
  have HN := hide hN
  clear hN
  have hx : ∀ X : World, X.heap[w1.heap.size]? = some (.cells #[.int .i64 n, .int .i64 v] 131 (0, 0)) → X.cell? ⟨w1.heap.size, 0, none⟩ = some (.int .i64 n) := fun X h => (block_facts h).1 0
  go_wp2_with fail
  go_region_held3 (fun X => X.cell? ⟨w1.heap.size, 0, none⟩ = some (.int .i64 n)) (go_keep) ((first | (go_at_call 72; refine (slotPage_any slot _ hs).mono ?_; rintro e w' ⟨rfl, rfl⟩) | (go_at_call 112; refine (flashText_in (((unhide HD1).alloc _).drew) (unhide HF) (11 + 6 * slot) n _ _ (by omega) (by omega) rfl rfl).mono ?_; rintro e w' ⟨rfl, rfl⟩)))
  all_goals
    generalize hT : (M.mk n fun j => F (16 * (11 + 6 * slot) + j)) = T at *
    have HT := hide hT
    clear hT
    go_wp2
    go_ret
    exact ⟨ret_string (by rw [HN.out, HT.out]), ((unhide HB).alloc (by omega) _).drew⟩
theorem eval_no {s q : ByteArray} (h : evalNum s q ≠ 0) : evalTxt s q = ⟨#[]⟩ := by
  unfold evalNum at h
  unfold evalTxt
  cases hi : M.isImage s
  · rfl
  · rw [hi, if_pos rfl] at h
    rw [if_pos rfl]
    by_cases hq : q.size = 2 * M.bz s 1
    · rw [if_pos hq] at h; exact absurd rfl h
    · rw [if_neg hq]
set_option maxRecDepth 10000 in
set_option maxHeartbeats 1000000 in
theorem rawInfer (hd : DevAt w b t key F on wait next age) (hF : ∀ j, F j < 256) (hk : kp ≤ 1) (hn : pickN (servedN ph kp) s0 s1 ≤ 96) (inp : ByteArray) (hi : inp.size ≤ maxLen) :
    Calls Tryz.prog 134 #[.pointer (some ⟨b, 0, none⟩), recV pg num kp ph tr s0 v0 s1 v1 th, .string inp] w fun e w' => OutRaw w on wait next age (evalNum (M.mk (pickN (servedN ph kp) s0 s1) fun j => F (16 * (11 + 6 * servedN ph kp) + j)) inp) (evalTxt (M.mk (pickN (servedN ph kp) s0 s1) fun j => F (16 * (11 + 6 * servedN ph kp) + j)) inp) (-1) [] e w' := by
  have hsv : servedN ph kp ≤ 1 := by unfold servedN; split <;> omega
  have HD := hide hd
  have HF := hide hF
  have HS := hide (fun W => recServed_d pg num kp ph tr s0 v0 s1 v1 th W hk)
  have HI := hide (fun (W : World) (hW : DevAt W b t key F on wait next age) => devImage_any (pg := pg) (num := num) (kp := kp) (ph := ph) (tr := tr) (v0 := v0) (v1 := v1) (th := th) hW hF (servedN ph kp) hsv hn)
  have HA := hide (fun W => netAnswer_any (M.mk (pickN (servedN ph kp) s0 s1) fun j => F (16 * (11 + 6 * servedN ph kp) + j)) inp W (by rw [M.mk_size]; unfold maxLen; omega) hi)
  have HE := hide (fun h => eval_no (s := M.mk (pickN (servedN ph kp) s0 s1) fun j => F (16 * (11 + 6 * servedN ph kp) + j)) (q := inp) h)
  clear hd hF hi hn hsv
  generalize hG : (M.mk (pickN (servedN ph kp) s0 s1) fun j => F (16 * (11 + 6 * servedN ph kp) + j)) = G at *
  generalize servedN ph kp = sv at *
  clear hG
  have hne : ¬ w.heap.size = w.heap.size + 1 := by omega
  have rule : ∀ (X : World) (o : Nat), X.heap[w.heap.size]? = some (.cells #[.int .i64 pg, .int .i64 num, .int .i64 kp, .int .i64 ph, .int .i64 tr, .int .i64 s0, .int .i64 v0, .int .i64 s1, .int .i64 v1, .int .i64 th] 133 (0, 0)) → X.cell? ⟨w.heap.size, o, none⟩ = (#[.int .i64 pg, .int .i64 num, .int .i64 kp, .int .i64 ph, .int .i64 tr, .int .i64 s0, .int .i64 v0, .int .i64 s1, .int .i64 v1, .int .i64 th] : Array Value)[o]? := fun X o h => cell_in h o
  go_enter Tryz.func134, Tryz.ntmps134
  go_wp2_with fail
  go_region_held3 (fun X => X.heap[w.heap.size]? = some (.cells #[.int .i64 pg, .int .i64 num, .int .i64 kp, .int .i64 ph, .int .i64 tr, .int .i64 s0, .int .i64 v0, .int .i64 s1, .int .i64 v1, .int .i64 th] 133 (0, 0))) (first | exact hR2 | exact hR1 | exact drew_block (first_block _ _ _)) ((first | (go_at_call 82; refine (unhide HS _).mono ?_; rintro e w1 ⟨rfl, hb1⟩; have hR1 := kept_block hb1 (drew_block (first_block _ _ _)); have HD1 := hide (((((unhide HD).alloc _).alloc _).drew).kept hb1)) | (go_at_call 161; refine (unhide HI _ (unhide HD1)).mono ?_; rintro e w2 ⟨rfl, hb2⟩; have hR2 := kept_block hb2 hR1)))
  have k2 := kept_block hb2 (kept_block hb1 (drew_block (last_block _ _ (show w.heap.size + 1 = _ by simp))))
  have hb0 : Below w.heap.size w w2 := by
    refine bvia hb2 (by have := hb1.size; simp at this; omega) ?_
    refine bvia hb1 (by simp; omega) ?_
    repeat (first | with_reducible exact unhide HB | with_reducible exact Below.refl _ _ | with_reducible refine bdrew ?_ | (with_reducible refine brow ?_ ?_; (focus (first | omega | (simp; done) | (simp; omega)))) | (with_reducible refine bset ?_ ?_; (focus (first | omega | (simp; done) | (simp; omega)))) | (with_reducible refine balloc ?_ ?_; (focus (first | omega | (simp; done) | (simp; omega)))) | (with_reducible refine bvia (unhide HB1) ?_ ?_; (focus (first | omega | (simp; done) | (simp; omega)))) | (with_reducible refine bvia (unhide HB2) ?_ ?_; (focus (first | omega | (simp; done) | (simp; omega)))) | (with_reducible refine bvia (unhide HB3) ?_ ?_; (focus (first | omega | (simp; done) | (simp; omega)))) | (with_reducible refine bvia (unhide HB4) ?_ ?_; (focus (first | omega | (simp; done) | (simp; omega)))) | (with_reducible refine bvia (unhide HB5) ?_ ?_; (focus (first | omega | (simp; done) | (simp; omega)))) | (with_reducible refine bvia (unhide HB6) ?_ ?_; (focus (first | omega | (simp; done) | (simp; omega)))))
  have hs0 : w.heap.size + 1 < w2.heap.size := (Array.getElem?_eq_some_iff.1 k2).1
  have HD2 := hide ((unhide HD1).kept hb2)
  have K2 := hide k2
  have HB0 := hide hb0
  clear hb0 hb1 hb2 hR1 hR2 k2 HD1 HI HS rule
  go_wp2_with fail
  refine (unhide HA _).mono ?_
  rintro e w3 ⟨rfl, hb3⟩
  have k2 := kept_block hb3 (unhide K2)
  have hs3 := hb3.size
  have HD3 := hide ((unhide HD2).kept hb3)
  have HB3 : Hid (Below w.heap.size w w3) := bvia hb3 (by omega) (unhide HB0)
  have K3 := hide k2
  clear hb3 k2 K2 HB0 HD2 HA
  generalize hEN : evalNum G inp = en at *
  generalize hET : evalTxt G inp = et at *
  have HEN := hide hEN
  have HET := hide hET
  clear hEN hET
  by_cases h0 : en = 0
  · subst h0
    go_wp2_with fail
    refine (devStill_any (unhide HD3)).mono ?_
    rintro e w4 ⟨rfl, hb4⟩
    obtain ⟨hx2, hf2⟩ := block_facts (kept_block hb4 (unhide K3))
    have hs4 := hb4.size
    have HB : Hid (Below w.heap.size w w4) := bvia hb4 (by omega) (unhide HB3)
    clear hb4
    have l2 : w.heap.size + 1 < w4.heap.size := (by omega); have n2 : ¬ w.heap.size + 1 = w4.heap.size := (by omega)
    go_wp2
    refine bodyPost_ret (v := outV (.slice none 0 0) on wait next age 0 et (-1)) (by simp [results, Tryz.results134, go_sem, hx2, l2]) rfl (raw_none (by rw [HEN.out, HET.out]) ?_)
    repeat (first | with_reducible exact unhide HB | with_reducible exact Below.refl _ _ | with_reducible refine bdrew ?_ | (with_reducible refine brow ?_ ?_; (focus (first | omega | (simp; done) | (simp; omega)))) | (with_reducible refine bset ?_ ?_; (focus (first | omega | (simp; done) | (simp; omega)))) | (with_reducible refine balloc ?_ ?_; (focus (first | omega | (simp; done) | (simp; omega)))) | (with_reducible refine bvia (unhide HB1) ?_ ?_; (focus (first | omega | (simp; done) | (simp; omega)))) | (with_reducible refine bvia (unhide HB2) ?_ ?_; (focus (first | omega | (simp; done) | (simp; omega)))) | (with_reducible refine bvia (unhide HB3) ?_ ?_; (focus (first | omega | (simp; done) | (simp; omega)))) | (with_reducible refine bvia (unhide HB4) ?_ ?_; (focus (first | omega | (simp; done) | (simp; omega)))) | (with_reducible refine bvia (unhide HB5) ?_ ?_; (focus (first | omega | (simp; done) | (simp; omega)))) | (with_reducible refine bvia (unhide HB6) ?_ ?_; (focus (first | omega | (simp; done) | (simp; omega)))))
  · have hn0 : (en != 0) = true := by simp [h0]
    have HE0 := hide (unhide HE h0)
    go_wp2_with fail
    refine (devFault_any (unhide HD3) en).mono ?_
    rintro e w4 ⟨rfl, hb4⟩
    obtain ⟨hx2, hf2⟩ := block_facts (kept_block hb4 (unhide K3))
    have hs4 := hb4.size
    have HB : Hid (Below w.heap.size w w4) := bvia hb4 (by omega) (unhide HB3)
    clear hb4
    have l2 : w.heap.size + 1 < w4.heap.size := (by omega); have n2 : ¬ w.heap.size + 1 = w4.heap.size := (by omega)
    go_wp2
    refine bodyPost_ret (v := outV (.slice none 0 0) on wait next age en ⟨#[]⟩ (-1)) (by simp [results, Tryz.results134, go_sem, hx2]) rfl (raw_none (by rw [HEN.out, HET.out, HE0.out]) ?_)
    repeat (first | with_reducible exact unhide HB | with_reducible exact Below.refl _ _ | with_reducible refine bdrew ?_ | (with_reducible refine brow ?_ ?_; (focus (first | omega | (simp; done) | (simp; omega)))) | (with_reducible refine bset ?_ ?_; (focus (first | omega | (simp; done) | (simp; omega)))) | (with_reducible refine balloc ?_ ?_; (focus (first | omega | (simp; done) | (simp; omega)))) | (with_reducible refine bvia (unhide HB1) ?_ ?_; (focus (first | omega | (simp; done) | (simp; omega)))) | (with_reducible refine bvia (unhide HB2) ?_ ?_; (focus (first | omega | (simp; done) | (simp; omega)))) | (with_reducible refine bvia (unhide HB3) ?_ ?_; (focus (first | omega | (simp; done) | (simp; omega)))) | (with_reducible refine bvia (unhide HB4) ?_ ?_; (focus (first | omega | (simp; done) | (simp; omega)))) | (with_reducible refine bvia (unhide HB5) ?_ ?_; (focus (first | omega | (simp; done) | (simp; omega)))) | (with_reducible refine bvia (unhide HB6) ?_ ?_; (focus (first | omega | (simp; done) | (simp; omega)))))
set_option maxRecDepth 10000 in
set_option maxHeartbeats 1000000 in
theorem rawOlder_no (hd : DevAt w b t key F on wait next age) (ha : age + 1 < 5) :
    Calls Tryz.prog 158 #[.pointer (some ⟨b, 0, none⟩), recV pg num kp ph tr s0 v0 s1 v1 th] w fun e w' => OutRaw w on wait next (age + 1) 0 ⟨#[]⟩ (-1) [] e w' := by
  have hlt := hd.lt
  have cA := hd.ageC
  have HD := hide hd
  have hge : ¬ (5 : Int) ≤ (age : Int) + 1 := by omega
  have hne : ¬ b = w.heap.size := by omega
  have hne1 : ¬ b = w.heap.size + 1 := by omega
  clear hd
  go_enter Tryz.func158, Tryz.ntmps158
  go_wp2_with fail
  refine (devStill_any (((unhide HD).alloc _).alloc _)).mono ?_
  rintro e w1 ⟨rfl, hb1⟩
  obtain ⟨k1, k2, hs1, hb⟩ := blk2 hb1
  obtain ⟨hx2, hf2⟩ := block_facts k2
  have HB := hide hb
  clear hb hb1 k1 k2
  have l2 : w.heap.size + 1 < w1.heap.size := (by omega); have n2 : ¬ w.heap.size + 1 = w1.heap.size := (by omega)
  go_wp2
  refine bodyPost_ret (v := outV (.slice none 0 0) on wait next ((age : Int) + 1) 0 ⟨#[]⟩ (-1)) (by simp [results, Tryz.results158, go_sem, hx2, l2]) rfl (raw_none rfl ?_)
  repeat (first | with_reducible exact unhide HB | with_reducible exact Below.refl _ _ | with_reducible refine bdrew ?_ | (with_reducible refine brow ?_ ?_; (focus (first | omega | (simp; done) | (simp; omega)))) | (with_reducible refine bset ?_ ?_; (focus (first | omega | (simp; done) | (simp; omega)))) | (with_reducible refine balloc ?_ ?_; (focus (first | omega | (simp; done) | (simp; omega)))) | (with_reducible refine bvia (unhide HB1) ?_ ?_; (focus (first | omega | (simp; done) | (simp; omega)))) | (with_reducible refine bvia (unhide HB2) ?_ ?_; (focus (first | omega | (simp; done) | (simp; omega)))) | (with_reducible refine bvia (unhide HB3) ?_ ?_; (focus (first | omega | (simp; done) | (simp; omega)))) | (with_reducible refine bvia (unhide HB4) ?_ ?_; (focus (first | omega | (simp; done) | (simp; omega)))) | (with_reducible refine bvia (unhide HB5) ?_ ?_; (focus (first | omega | (simp; done) | (simp; omega)))) | (with_reducible refine bvia (unhide HB6) ?_ ?_; (focus (first | omega | (simp; done) | (simp; omega)))))
set_option maxRecDepth 10000 in
set_option maxHeartbeats 1000000 in
theorem rawOlder_yes (hd : DevAt w b t key F on wait next age) (h : RecOk pg num kp ph tr s0 v0 s1 v1 th) (ha : 5 ≤ age + 1) (ha2 : age ≤ 1000) :
    Calls Tryz.prog 158 #[.pointer (some ⟨b, 0, none⟩), recV pg num kp ph tr s0 v0 s1 v1 th] w fun e w' => OutRaw w on wait next (age + 1) 0 ⟨#[]⟩ (-1) [(1 - pg, recP ((num + 1) % 256) kp 0 0 s0 v0 s1 v1 0)] e w' := by
  have hlt := hd.lt
  have cA := hd.ageC
  have HD := hide hd
  have hge : (5 : Int) ≤ (age : Int) + 1 := by omega
  have hne : ¬ b = w.heap.size := by omega
  have hne1 : ¬ b = w.heap.size + 1 := by omega
  have HC := hide (fun W => recSteady_any pg num kp ph tr s0 v0 s1 v1 th W h.1 h.2.1)
  have HR : Hid (∀ (W : World) (_ : DevAt W b t key F on wait next age), Calls Tryz.prog 169 #[.pointer (some ⟨b, 0, none⟩), recV (1 - pg : Nat) ((num + 1) % 256 : Nat) kp (0 : Nat) (0 : Nat) s0 v0 s1 v1 (0 : Nat)] W fun e w' => ∃ (g : Nat) (C : Array Value), e = .returned (.agg C) ∧ Hid (C = outC (.slice (some ⟨g, 0, none⟩) 1 1) on wait next age 0 ⟨#[]⟩ (-1)) ∧ w'.ownsRow W.heap.size 136 2 (.slice (some ⟨g, 0, none⟩) 1 1) 1 (gwCells [(1 - pg, recP ((num + 1) % 256) kp 0 0 s0 v0 s1 v1 0)]) ∧ Below W.heap.size W w') :=
    fun W hW => (recorded_ok (next_ok (p := 0) (q := 0) (k := kp) (t := 0) h (by omega) (by omega) h.2.2.1 (by omega)) hW).mono fun _ _ ⟨g, a, o, bb⟩ => ⟨g, _, a, rfl, o, bb⟩
  clear hd h
  go_enter Tryz.func158, Tryz.ntmps158
  go_wp2_with fail
  refine (devStill_any (((unhide HD).alloc _).alloc _)).mono ?_
  rintro e w1 ⟨rfl, hb1⟩
  obtain ⟨k1, k2, hs1, hb⟩ := blk2 hb1
  have HD1 := hide ((((unhide HD).alloc _).alloc _).kept hb1)
  obtain ⟨hx1, hf1⟩ := block_facts k1
  have K2 := hide k2
  have HB1 := hide hb
  clear hb hb1 k1 k2
  have l1 : w.heap.size < w1.heap.size := (by omega); have n1 : ¬ w.heap.size = w1.heap.size := (by omega)
  have l2 : w.heap.size + 1 < w1.heap.size := (by omega); have n2 : ¬ w.heap.size + 1 = w1.heap.size := (by omega)
  go_wp2_with fail
  refine (unhide HC _).mono ?_
  rintro e w2 ⟨rfl, hb2⟩
  clear hx1 hf1
  have HD2 := hide (((unhide HD1).alloc _).kept hb2)
  have k2 := kept_block hb2 (alloc_block (unhide K2) _)
  obtain ⟨k3, hs2, hb⟩ := blk1 hb2
  have K2' := hide k2
  have K3 := hide k3
  have HB2 := hide hb
  clear hb hb2 k2 k3 K2
  generalize hN : (num + 1) % 256 = N at *; generalize hP : 1 - pg = P at *; have HN := hide hN; have HP := hide hP; clear hN hP
  go_wp2_with fail
  refine (unhide HR _ (unhide HD2)).mono ?_
  rintro e w3 ⟨g, C, rfl, HC, hown, hb3⟩
  have hC8 : C.size = 8 := by rw [HC.out]; rfl
  have hCn : ¬ C = #[] := fun e => by rw [e] at hC8; exact absurd hC8 (by decide)
  have hst := store_row (c := C) (kept_block hb3 (unhide K3)) (ty := 163) (by rw [out_info, hC8]) (by rw [hC8]; rfl) (by rw [HC.out]; simp [Value.oneCell'])
  have hr1 := row_in (C := C) (kept_block hb3 (unhide K3))
  have hx3 : ∀ o, (w3.setRow w1.heap.size C).cell? ⟨w1.heap.size, o, none⟩ = (outC (.slice (some ⟨g, 0, none⟩) 1 1) on wait next age 0 ⟨#[]⟩ (-1))[o]? := fun o => by rw [(block_facts hr1).1 o, HC.out]
  have hf3 := (block_facts hr1).2
  obtain ⟨hx2, hf2⟩ := block_facts (row_else (C := C) (g := w1.heap.size) (by omega) (kept_block hb3 (unhide K2')))
  have hz3 := row_size w3 w1.heap.size C
  have hs3 := hb3.size
  have HO : Hid (w3.ownsRow w2.heap.size 136 2 (.slice (some ⟨g, 0, none⟩) 1 1) 1 (gwCells [(P, recP N kp 0 0 s0 v0 s1 v1 0)])) := hown
  have HB3 := hide hb3
  clear hown hb3 hr1
  have l3 : w.heap.size + 1 < w3.heap.size := (by omega); have n3 : ¬ w.heap.size + 1 = w3.heap.size := (by omega)
  have l4 : w1.heap.size < w3.heap.size := (by omega); have n4 : ¬ w1.heap.size = w3.heap.size := (by omega)
  go_wp2
  refine bodyPost_ret (v := outV (.slice (some ⟨g, 0, none⟩) 1 1) on wait next ((age : Int) + 1) 0 ⟨#[]⟩ (-1)) (by simp [results, Tryz.results158, go_sem, hx2]) rfl ⟨some ⟨g, 0, none⟩, 1, rfl, ?_, ?_⟩
  · rw [HN.out, HP.out]
    refine ownsRow_base (base' := w2.heap.size) ?_ (by omega)
    iterate 8 refine ownsRow_setCell_below ?_ (by show w.heap.size + 1 < w2.heap.size; omega) _
    refine ownsRow_setCell_below ?_ (by show w1.heap.size < w2.heap.size; omega) _
    exact own_row (unhide HO) (by omega) C
  · repeat (first | with_reducible exact unhide HB | with_reducible exact Below.refl _ _ | with_reducible refine bdrew ?_ | (with_reducible refine brow ?_ ?_; (focus (first | omega | (simp; done) | (simp; omega)))) | (with_reducible refine bset ?_ ?_; (focus (first | omega | (simp; done) | (simp; omega)))) | (with_reducible refine balloc ?_ ?_; (focus (first | omega | (simp; done) | (simp; omega)))) | (with_reducible refine bvia (unhide HB1) ?_ ?_; (focus (first | omega | (simp; done) | (simp; omega)))) | (with_reducible refine bvia (unhide HB2) ?_ ?_; (focus (first | omega | (simp; done) | (simp; omega)))) | (with_reducible refine bvia (unhide HB3) ?_ ?_; (focus (first | omega | (simp; done) | (simp; omega)))) | (with_reducible refine bvia (unhide HB4) ?_ ?_; (focus (first | omega | (simp; done) | (simp; omega)))) | (with_reducible refine bvia (unhide HB5) ?_ ?_; (focus (first | omega | (simp; done) | (simp; omega)))) | (with_reducible refine bvia (unhide HB6) ?_ ?_; (focus (first | omega | (simp; done) | (simp; omega)))))
end
end Go.Proofs.YtjfmiomopfjecabGreat

/- A patch that is measured, and what comes out: delta.measure, delta.Apply, slots.Patch. -/
namespace Go.Proofs.YtjfmiomopfjecabGreat
open Go.RowKit Go.Lib

theorem stepFits_any (b p : ByteArray) (i : Nat) (w : World) (hb : b.size ≤ 2000000) (h3 : M.bz p i ≤ 3) :
    Calls Tryz.prog 207 #[stepV p i, .string b] w fun e w' => e = .returned (.bool (M.opFits b p i)) ∧ Below w.heap.size w w' := by
  have b1 := M.bz_lt p (i + 1)
  have b2 := M.bz_lt p (i + 2)
  unfold stepV
  by_cases h : M.bz p i = 0 ∨ M.bz p i = 3
  · have e1 : opAt p i = M.bz p (i + 1) := by rcases h with h | h <;> simp [opAt, h]
    have e2 : M.opCount p i = M.bz p (i + 2) := by rcases h with h | h <;> simp [M.opCount, h]
    have e3 : M.opFits b p i = decide (M.bz p (i + 1) + M.bz p (i + 2) ≤ b.size) := by rcases h with h | h <;> simp [M.opFits, h]
    rw [e1, e2, e3]
    exact fits_base _ _ _ _ b w h b1 b2 hb
  · have e3 : M.opFits b p i = true := by
      unfold M.opFits
      rw [decide_eq_false (fun x => h (.inl x)), decide_eq_false (fun x => h (.inr x))]; rfl
    rw [e3]
    exact fits_own _ _ _ _ b w (by omega)

def measV (b p : ByteArray) : Value := match M.goFrom b p 0 ⟨#[]⟩ with | some o => .tuple #[.int .i64 o.size, .bool true] | none => .tuple #[.int .i64 0, .bool false]
theorem measV_some {b p o : ByteArray} (h : M.goFrom b p 0 ⟨#[]⟩ = some o) : measV b p = .tuple #[.int .i64 o.size, .bool true] := by unfold measV; rw [h]
theorem measV_none {b p : ByteArray} (h : M.goFrom b p 0 ⟨#[]⟩ = none) : measV b p = .tuple #[.int .i64 0, .bool false] := by unfold measV; rw [h]
theorem ret_val {a b : Value} (h : a = b) : Ending.returned a = .returned b := by rw [h]
theorem opOk_of {b p : ByteArray} {i : Nat} (h1 : M.opThere p i = true) (h2 : M.opFits b p i = true) : M.opOk b p i = true := by unfold M.opOk; rw [h1, h2]; rfl
theorem there_what {p : ByteArray} {i : Nat} (h : M.opThere p i = true) : M.bz p i ≤ 3 ∧ i + M.opLen p i ≤ p.size := by
  unfold M.opThere at h
  simp only [Bool.and_eq_true, decide_eq_true_eq] at h
  exact h

set_option maxHeartbeats 800000 in
theorem measure_any (b p : ByteArray) (w : World) (hp : p.size ≤ 2000000) (hb : b.size ≤ 2000000) :
    Calls Tryz.prog 204 #[.string b, .string p] w fun e w' => e = .returned (measV b p) ∧ Below w.heap.size w w' := by
  go_enter Tryz.func204, Tryz.ntmps204
  go_wp2_with fail
  go_loopw [6, 7] (fun s i wr => ∃ (k z : Nat) (o : ByteArray), k ≤ p.size ∧ i = .int .i64 k ∧ s = .int .i64 z ∧ Hid (o.size = z) ∧ Hid (M.goFrom b p k o = M.goFrom b p 0 ⟨#[]⟩) ∧ z ≤ 255 * k ∧ Below w.heap.size w wr) (fun _ i _ => p.size - (intOf i).toNat)
  case atStart => exact ⟨0, 0, ⟨#[]⟩, by omega, rfl, rfl, rfl, rfl, by omega, Below.refl _ _⟩
  case round =>
    obtain ⟨k, z, o, hk, rfl, rfl, hz, hgo, hzk, hbel⟩ := hrel
    have hsz := hbel.size
    have HB := hide hbel
    clear hbel
    by_cases hlt : k < p.size
    · go_wp2_with fail
      refine (read_any p k _ hp hlt).mono ?_
      rintro e w1 ⟨hy, hno, hb1⟩
      have HB1 := hide ((unhide HB).trans (hb1.mono hsz))
      have hsz1 := hb1.size
      cases hth : M.opThere p k
      · obtain rfl := hno hth
        have HEND := hide (measV_none (hgo.out.symm.trans (M.goFrom_no hlt (by unfold M.opOk; rw [hth]; rfl))))
        clear hth hy hno hb1
        unfold stepNo
        go_wp2
        go_ret2
        exact ⟨ret_val HEND.out.symm, (unhide HB1).alloc (by omega) _⟩
      · obtain rfl := hy hth
        obtain ⟨hwh, hle⟩ := there_what hth
        have HTH := hide hth
        clear hth hy hno hb1
        have hl2 := M.opLen_two p k
        have hl3 := M.opLen_le p k
        have hc := M.opCount_le p k
        have HC := hide (M.opGives_size b p k)
        have HSTEP := hide (fun h => M.goFrom_ok (b := b) (o := o) hlt (opOk_of (unhide HTH) h))
        have HSTOP := hide (fun (h : M.opFits b p k = false) => measV_none (hgo.out.symm.trans (M.goFrom_no hlt (by unfold M.opOk; rw [h, Bool.and_false]))))
        have HFIT := hide (fun w => stepFits_any b p k w hb hwh)
        unfold stepV at HFIT ⊢
        generalize M.opLen p k = l at *
        generalize M.opCount p k = c at *
        generalize opAt p k = a at *
        generalize opOwn p k = t at *
        generalize M.bz p k = x at *
        go_wp2_with fail
        refine (unhide HFIT _).mono ?_
        rintro e w2 ⟨rfl, hb2⟩
        have hc2 : w2.cell? ⟨w1.heap.size, 2, none⟩ = some (.int .i64 c) := (hb2.cell (p := ⟨w1.heap.size, 2, none⟩) (by simp)).trans (by simp)
        have hsz2 := hb2.size
        simp only [World.size_alloc] at hsz2
        have HB2 : Hid (Below w.heap.size w w2) := ((unhide HB1).alloc (by omega) _).trans (hb2.mono (by simp; omega))
        clear hb2 HFIT
        cases hf : M.opFits b p k
        · have HEND := hide (HSTOP.out hf)
          clear hf
          go_wp2
          go_ret2
          exact ⟨ret_val HEND.out.symm, unhide HB2⟩
        · have HNEW := hide ((HSTEP.out hf).symm.trans hgo.out)
          have HZN : Hid ((o ++ M.opGives b p k).size = z + c) := by rw [ByteArray.size_append, hz.out, HC.out]; rfl
          clear hf
          go_wp2
          go_roundw
          case rel => exact ⟨k + l, z + c, o ++ M.opGives b p k, by omega, rfl, by go_num, HZN, HNEW, by omega, unhide HB2⟩
          case measure => simp [intOf]; omega
    · have hkn : k = p.size := by omega
      have HEND := hide (measV_some (hgo.out.symm.trans (M.goFrom_end (by omega))))
      go_wp2
      go_ret2
      exact ⟨ret_val (by rw [HEND.out, hz.out]; rfl), unhide HB⟩

theorem res_none {b p : ByteArray} {n : Int} (h : M.goFrom b p 0 ⟨#[]⟩ = none) : M.patchRes b p n = none := by unfold M.patchRes; rw [h]; rfl
theorem res_size {b p o : ByteArray} {n : Int} (h : M.goFrom b p 0 ⟨#[]⟩ = some o) (hn : ¬ (o.size : Int) = n) : M.patchRes b p n = none := by
  unfold M.patchRes; rw [h]
  simp [Option.filter, hn]
theorem res_some {b p o : ByteArray} {n : Int} (h : M.goFrom b p 0 ⟨#[]⟩ = some o) (hn : (o.size : Int) = n) : M.patchRes b p n = some o := by
  unfold M.patchRes; rw [h]
  simp [Option.filter, hn]
def applyV (b p : ByteArray) (n : Int) : Value := match M.patchRes b p n with | some o => .tuple #[.string o, .bool true] | none => .tuple #[.string ⟨#[]⟩, .bool false]
theorem applyV_some {b p o : ByteArray} {n : Int} (h : M.patchRes b p n = some o) : applyV b p n = .tuple #[.string o, .bool true] := by unfold applyV; rw [h]
theorem applyV_none {b p : ByteArray} {n : Int} (h : M.patchRes b p n = none) : applyV b p n = .tuple #[.string ⟨#[]⟩, .bool false] := by unfold applyV; rw [h]

set_option maxHeartbeats 800000 in
theorem apply_any (b p : ByteArray) (n : Int) (w : World) (hp : p.size ≤ 2000000) (hb : b.size ≤ 2000000) :
    Calls Tryz.prog 201 #[.string b, .string p, .int .i64 n] w fun e w' => e = .returned (applyV b p n) ∧ Below w.heap.size w w' := by
  go_enter Tryz.func201, Tryz.ntmps201
  go_wp2_with fail
  refine (measure_any b p _ hp hb).mono ?_
  rintro e w0 ⟨rfl, hb0⟩
  have HB0 := hide hb0
  have hsz0 := hb0.size
  clear hb0
  cases hg : M.goFrom b p 0 ⟨#[]⟩ with
  | none =>
    have HEND := hide (applyV_none (res_none (n := n) hg))
    rw [measV_none hg]
    clear hg
    go_wp2
    go_ret2
    exact ⟨ret_val HEND.out.symm, unhide HB0⟩
  | some R =>
    rw [measV_some hg]
    by_cases hn : (R.size : Int) = n
    · have HEND := hide (applyV_some (res_some hg hn))
      have hne : ((R.size : Int) != n) = false := by rw [bne_eq_false_iff_eq]; exact hn
      have HG := hide hg
      clear hg hn
      go_wp2_with fail
      go_loopw [10, 11] (fun v i wr => ∃ (k : Nat) (o : ByteArray), k ≤ p.size ∧ i = .int .i64 k ∧ Hid (M.goFrom b p k o = some R) ∧ o.size ≤ 255 * k ∧ wr.ownsRow w.heap.size 5 1 v o.size (strCells o) ∧ Below w.heap.size w wr) (fun _ i _ => p.size - (intOf i).toNat)
      case atStart => exact ⟨0, ⟨#[]⟩, by omega, rfl, HG, by show 0 ≤ _; omega, World.ownsRow_nil _ _ _ _, unhide HB0⟩
      case round =>
        clear HB0 HG hsz0
        obtain ⟨k, o, hk, rfl, hgo, hzk, hown, hbel⟩ := hrel
        have hsz := hbel.size
        have HB := hide hbel
        have HO := hide hown
        clear hbel
        by_cases hlt : k < p.size
        · clear hown
          cases hok : M.opOk b p k
          · have := M.goFrom_no (o := o) hlt hok
            rw [hgo.out] at this
            cases this
          · have hth : M.opThere p k = true := by
              unfold M.opOk at hok
              simp only [Bool.and_eq_true] at hok
              exact hok.1
            obtain ⟨hwh, hle⟩ := there_what hth
            go_wp2_with fail
            refine (read_any p k _ hp hlt).mono ?_
            rintro e w1 ⟨hy, hno, hb1⟩
            have HB1 := hide ((unhide HB).trans (hb1.mono hsz))
            have hsz1 := hb1.size
            have HO1 := hide (ownsRow_below (unhide HO) hb1)
            obtain rfl := hy hth
            clear hth hy hno hb1
            have hl2 := M.opLen_two p k
            have hl3 := M.opLen_le p k
            have hc := M.opCount_le p k
            have HC := hide (M.opGives_size b p k)
            have HNEW := hide ((M.goFrom_ok (o := o) hlt hok).symm.trans hgo.out)
            have HGIV := hide (fun w => gives_any b p k w hb hok)
            clear hok
            unfold stepV at HGIV ⊢
            generalize M.opLen p k = l at *
            generalize M.opCount p k = c at *
            generalize opAt p k = a at *
            generalize opOwn p k = t at *
            generalize M.bz p k = x at *
            go_wp2_with fail
            refine (unhide HGIV _).mono ?_
            rintro e w2 ⟨rfl, hb2⟩
            have hsz2 := hb2.size
            simp only [World.size_alloc] at hsz2
            have HB2 : Hid (Below w.heap.size w w2) := ((unhide HB1).alloc (by omega) _).trans (hb2.mono (by simp; omega))
            have HO2 := hide (ownsRow_below ((unhide HO1).alloc _) hb2)
            clear hb2 HGIV
            generalize M.opGives b p k = g at *
            have HZN : Hid ((o ++ g).size ≤ 255 * (k + l)) := by rw [ByteArray.size_append, HC.out]; show _ ≤ _; omega
            go_wp2_with (at_builtin; (refine append_text _ rfl (.tmp 41) (.tmp 44) rfl w.heap.size u10 o g rfl rfl (unhide HO2) (by rw [HC.out]; omega) (by omega) ?_); intro v' w3 hown3 hbel3 hsz3)
            have HR := hide hown3
            have HB3 := hide (hbel3 _ (unhide HB2))
            clear hown3 hbel3
            go_wp2
            go_roundw
            case rel => exact ⟨k + l, o ++ g, by omega, rfl, HNEW, unhide HZN, unhide HR, unhide HB3⟩
            case measure => simp [intOf]; omega
        · have hr := row_text _ _ _ _ hown
          have HE : Hid (o = R) := by
            have := hgo.out
            rw [M.goFrom_end (by omega)] at this
            exact Option.some.inj this
          clear hown
          go_wp2
          go_ret2
          exact ⟨ret_val (by rw [HEND.out, ← HE.out]; rfl), unhide HB⟩
    · have HEND := hide (applyV_none (res_size hg hn))
      have hne : ((R.size : Int) != n) = true := by rw [bne_iff_ne]; exact hn
      clear hg hn
      go_wp2
      go_ret2
      exact ⟨ret_val HEND.out.symm, unhide HB0⟩

theorem txt_some {b p o : ByteArray} {n : Int} (h : M.patchRes b p n = some o) : M.patchTxt b p n = o ∧ M.patchNum b p n = 0 := by
  unfold M.patchTxt M.patchNum
  rw [h]
  exact ⟨rfl, rfl⟩
theorem txt_none {b p : ByteArray} {n : Int} (h : M.patchRes b p n = none) : M.patchTxt b p n = ⟨#[]⟩ ∧ M.patchNum b p n = 4 := by
  unfold M.patchTxt M.patchNum
  rw [h]
  exact ⟨rfl, rfl⟩
theorem ret_txt {a b : ByteArray} {c d : Int} (h : a = b ∧ c = d) : Ending.returned (.tuple #[.string b, .int .i64 d]) = .returned (.tuple #[.string a, .int .i64 c]) := by rw [h.1, h.2]
end Go.Proofs.YtjfmiomopfjecabGreat

/- The new image is put together. -/
namespace Go.Proofs.YtjfmiomopfjecabGreat
open Go.RowKit Go.Lib

/-- what is put together, as the program does it -/
def builtO (base : ByteArray) (F : Nat → Nat) : Nat × ByteArray :=
  match M.patchRes base (M.mk (M.mf F 4) fun j => F (80 + j)) (M.mf F 5) with
  | none => (4, ⟨#[]⟩)
  | some o => if M.crc o.data.toList ≠ M.numAt (M.mf F) 6 then (15, ⟨#[]⟩) else if M.isImage o = false then (1, ⟨#[]⟩) else if passB (M.mf F) o = false then (16, ⟨#[]⟩) else (0, o)
theorem builtO_is (F : Nat → Nat) : M.builtN F = builtO (M.imgOf F (M.fld F 1)) F := by
  unfold M.builtN builtO
  dsimp only
  cases h : M.patchRes (M.imgOf F (M.fld F 1)) (M.mk (M.mf F 4) fun j => F (80 + j)) (M.mf F 5) with
  | none => rw [if_pos (by rw [(txt_none h).2]; decide)]
  | some o =>
    rw [(txt_some h).1, (txt_some h).2, if_neg (by decide), show M.mf F 6 * 256 + M.mf F 7 = M.numAt (M.mf F) 6 from rfl]
    dsimp only
    by_cases hc : M.crc o.data.toList ≠ M.numAt (M.mf F) 6
    · rw [if_pos hc, if_pos hc]
    · rw [if_neg hc, if_neg hc]
      cases hi : M.isImage o
      · rw [if_pos rfl, if_pos rfl]
      · rw [if_neg (show ¬ (true = false) by decide), if_neg (show ¬ (true = false) by decide)]
        by_cases ht : M.mf F (8 + 2 * M.chunksN (M.mf F 4)) = 1
        · have q : M.exQ (M.mf F) = M.mk (M.mf F (8 + 2 * M.chunksN (M.mf F 4) + 1)) fun j => M.mf F (8 + 2 * M.chunksN (M.mf F 4) + 3 + j) := by
            unfold M.exQ
            rw [if_pos ht, show 9 + 2 * M.chunksN (M.mf F 4) = 8 + 2 * M.chunksN (M.mf F 4) + 1 from by omega, show 11 + 2 * M.chunksN (M.mf F 4) = 8 + 2 * M.chunksN (M.mf F 4) + 3 from by omega]
          have a : M.exA (M.mf F) = M.mk (M.mf F (8 + 2 * M.chunksN (M.mf F 4) + 2)) fun j => M.mf F (8 + 2 * M.chunksN (M.mf F 4) + 3 + M.mf F (8 + 2 * M.chunksN (M.mf F 4) + 1) + j) := by
            unfold M.exA
            rw [if_pos ht, show 9 + 2 * M.chunksN (M.mf F 4) = 8 + 2 * M.chunksN (M.mf F 4) + 1 from by omega, show 10 + 2 * M.chunksN (M.mf F 4) = 8 + 2 * M.chunksN (M.mf F 4) + 2 from by omega, show 11 + 2 * M.chunksN (M.mf F 4) = 8 + 2 * M.chunksN (M.mf F 4) + 3 from by omega]
          have x : M.exB (M.mf F) = true := decide_eq_true ht
          have e : passB (M.mf F) o = (decide (evalNum o (M.exQ (M.mf F)) = 0) && decide (evalTxt o (M.exQ (M.mf F)) = M.exA (M.mf F))) := by unfold passB; rw [x]; rfl
          rw [← q, ← a, e]
          by_cases h1 : evalNum o (M.exQ (M.mf F)) = 0
          · by_cases h2 : evalTxt o (M.exQ (M.mf F)) = M.exA (M.mf F)
            · rw [if_neg (fun h => h.2.elim (fun h => h h1) (fun h => h h2)), if_neg (by rw [decide_eq_true h1, decide_eq_true h2]; decide)]
            · rw [if_pos ⟨ht, .inr h2⟩, if_pos (by rw [decide_eq_false h2]; simp)]
          · rw [if_pos ⟨ht, .inl h1⟩, if_pos (by rw [decide_eq_false h1]; simp)]
        · have x : M.exB (M.mf F) = false := decide_eq_false ht
          have e : passB (M.mf F) o = true := by unfold passB; rw [x]; rfl
          rw [if_neg (fun h => ht h.1), if_neg (by rw [e]; decide)]
theorem res_len {b p o : ByteArray} {n : Int} (h : M.patchRes b p n = some o) : (o.size : Int) = n := by
  unfold M.patchRes at h
  have := (Option.filter_eq_some_iff.1 h).2
  simpa using this
section
variable {pg num kp ph tr s0 v0 s1 v1 th : Nat} {w : World} {b : Nat} {t : TypeId} {key : ByteArray} {F : Nat → Nat} {on : Bool} {wait next age : Nat}
set_option maxRecDepth 10000 in
set_option maxHeartbeats 1000000 in
theorem rawBuilt (hd : DevAt w b t key F on wait next age) (hF : ∀ j, F j < 256) (hk : kp ≤ 1) (hn : pickN kp s0 s1 ≤ 96) (h4 : M.mf F 4 ≤ 96) (h5 : M.mf F 5 ≤ 96) (hq : (M.exQ (M.mf F)).size ≤ maxLen) (base : ByteArray) (hb : (M.mk (pickN kp s0 s1) fun j => F (16 * (11 + 6 * kp) + j)) = base) (ao : Option Addr) (n cap : Nat) :
    Calls Tryz.prog 195 #[.pointer (some ⟨b, 0, none⟩), recV pg num kp ph tr s0 v0 s1 v1 th, manOf (M.mf F) (.slice ao n cap)] w fun e w' => e = .returned (.tuple #[.string (builtO base F).2, .int .i64 (builtO base F).1]) ∧ Below w.heap.size w w' := by
  have hbs : base.size ≤ 96 := by rw [← hb, M.mk_size]; exact hn
  have HD := hide hd
  have HF := hide hF
  have HI := hide (fun (W : World) (hW : DevAt W b t key F on wait next age) => devImage_any (pg := pg) (num := num) (kp := kp) (ph := ph) (tr := tr) (v0 := v0) (v1 := v1) (th := th) hW hF kp hk hn)
  rw [hb] at HI
  have HPA := hide (fun (W : World) (s : ByteArray) hs => manPassed_any (M.mf F) (.slice ao n cap) s W hs hq)
  have HBO : Hid (builtO base F = match M.patchRes base (M.mk (M.mf F 4) fun j => F (80 + j)) (M.mf F 5) with
    | none => (4, ⟨#[]⟩)
    | some o => if M.crc o.data.toList ≠ M.numAt (M.mf F) 6 then (15, ⟨#[]⟩) else if M.isImage o = false then (1, ⟨#[]⟩) else if passB (M.mf F) o = false then (16, ⟨#[]⟩) else (0, o)) := rfl
  clear hd hF hb hn hq
  unfold manOf at *
  generalize builtO base F = BO at *
  generalize passB (M.mf F) = PB at *
  generalize M.numAt (M.mf F) 0 = a0 at *
  generalize M.numAt (M.mf F) 2 = a2 at *
  generalize M.numAt (M.mf F) 6 = a6 at *
  generalize M.exB (M.mf F) = x1 at *
  generalize M.exQ (M.mf F) = x2 at *
  generalize M.exA (M.mf F) = x3 at *
  go_enter Tryz.func195, Tryz.ntmps195
  go_wp2_with fail
  refine (unhide HI _ (((unhide HD).alloc _).alloc _)).mono ?_
  rintro e w1 ⟨rfl, hb1⟩
  obtain ⟨k1, k2, hs1, hb⟩ := blk2 hb1
  have HD1 := hide ((((unhide HD).alloc _).alloc _).kept hb1)
  have hc2 : w1.cell? ⟨w.heap.size + 1, 2, none⟩ = some (.int .i64 (M.mf F 4)) := (block_facts k2).1 2
  have K2 := hide k2
  have HB1 := hide hb
  clear hb hb1 k1 k2
  go_wp2_with fail
  go_region_held3 (fun X => X.cell? ⟨w.heap.size + 1, 2, none⟩ = some (.int .i64 (M.mf F 4))) (go_keep) ((go_at_call 112; refine (flashText_in ((unhide HD1).drew) (unhide HF) 5 (M.mf F 4) _ _ (by omega) (by omega) rfl rfl).mono ?_; rintro e w' ⟨rfl, rfl⟩))
  have hps : (M.mk (M.mf F 4) fun j => F (80 + j)).size ≤ 96 := by rw [M.mk_size]; exact h4
  generalize (M.mk (M.mf F 4) fun j => F (80 + j)) = patch at *
  obtain ⟨hx2, hf2⟩ := block_facts (unhide K2)
  clear hc2
  go_wp2_with fail
  refine (apply_any base patch _ _ (by omega) (by omega)).mono ?_
  rintro e w2 ⟨rfl, hb2⟩
  have K3 := hide (kept_block hb2 (drew_block (unhide K2)))
  have HD2 := hide (((unhide HD1).drew).kept hb2)
  have hs2 := hb2.size
  simp at hs2
  have HB2 : Hid (Below w.heap.size w w2) := by
    show Below _ _ _
    refine bvia hb2 (by simp; omega) ?_
    repeat (first | with_reducible exact unhide HB | with_reducible exact Below.refl _ _ | with_reducible refine bdrew ?_ | (with_reducible refine brow ?_ ?_; (focus (first | omega | (simp; done) | (simp; omega)))) | (with_reducible refine bset ?_ ?_; (focus (first | omega | (simp; done) | (simp; omega)))) | (with_reducible refine balloc ?_ ?_; (focus (first | omega | (simp; done) | (simp; omega)))) | (with_reducible refine bvia (unhide HB1) ?_ ?_; (focus (first | omega | (simp; done) | (simp; omega)))) | (with_reducible refine bvia (unhide HB2) ?_ ?_; (focus (first | omega | (simp; done) | (simp; omega)))) | (with_reducible refine bvia (unhide HB3) ?_ ?_; (focus (first | omega | (simp; done) | (simp; omega)))) | (with_reducible refine bvia (unhide HB4) ?_ ?_; (focus (first | omega | (simp; done) | (simp; omega)))) | (with_reducible refine bvia (unhide HB5) ?_ ?_; (focus (first | omega | (simp; done) | (simp; omega)))) | (with_reducible refine bvia (unhide HB6) ?_ ?_; (focus (first | omega | (simp; done) | (simp; omega)))))
  clear hb2 HB1 HD1 K2 hx2 hf2
  cases hres : M.patchRes base patch (M.mf F 5) with
  | none =>
    rw [applyV_none hres]
    have HB0 : Hid (BO = (4, ⟨#[]⟩)) := by have := HBO.out; rw [hres] at this; exact this
    clear HBO hres
    go_wp2
    go_ret2
    exact ⟨ret_two (by rw [HB0.out]) (by rw [HB0.out]; rfl), unhide HB2⟩
  | some o =>
    rw [applyV_some hres]
    have hos : o.size ≤ 96 := by have := res_len hres; omega
    have HBO' : Hid (BO = if M.crc o.data.toList ≠ a6 then (15, ⟨#[]⟩) else if M.isImage o = false then (1, ⟨#[]⟩) else if PB o = false then (16, ⟨#[]⟩) else (0, o)) := by have := HBO.out; rw [hres] at this; exact this
    have HSM := hide (fun W => sumOf_any o W (by unfold maxLen; omega))
    clear HBO hres
    have hc4 : w2.cell? ⟨w.heap.size + 1, 4, none⟩ = some (.int .i64 a6) := (block_facts (unhide K3)).1 4
    generalize hC : M.crc o.data.toList = C at *
    clear hC
    go_wp2_with fail
    go_region_held3 (fun X => X.cell? ⟨w.heap.size + 1, 4, none⟩ = some (.int .i64 a6)) (go_keep) ((go_at_call 187; refine (unhide HSM _).mono ?_; rintro e w' ⟨rfl, rfl⟩))
    by_cases hcr : C = a6
    · have g1 : ((C : Int) != (a6 : Int)) = false := by simp; omega
      have HBO2 : Hid (BO = if M.isImage o = false then (1, ⟨#[]⟩) else if PB o = false then (16, ⟨#[]⟩) else (0, o)) := by have := HBO'.out; rw [if_neg (fun h => h hcr)] at this; exact this
      clear HBO' hc4 hcr
      go_wp2_with fail
      refine (netCheck_any o _ (by unfold maxLen; omega)).mono ?_
      rintro e w3 ⟨rfl, hb3⟩
      have K4 := hide (kept_block hb3 (drew_block (unhide K3)))
      have hs3 := hb3.size
      simp at hs3
      have HB3 : Hid (Below w.heap.size w w3) := bvia hb3 (by simp; omega) ((unhide HB2).drew)
      clear hb3 K3 HB2
      cases him : M.isImage o
      · have HCN : Hid (checkNum o = 1) := by show _ = _; unfold checkNum; rw [him]; rfl
        rw [HCN.out]
        have HB0 : Hid (BO = (1, ⟨#[]⟩)) := by have := HBO2.out; rw [him, if_pos rfl] at this; exact this
        go_wp2
        go_ret2
        exact ⟨ret_two (by rw [HB0.out]) (by rw [HB0.out]; rfl), unhide HB3⟩
      · have HCN : Hid (checkNum o = 0) := by show _ = _; unfold checkNum; rw [him]; rfl
        rw [HCN.out]
        have HBO3 : Hid (BO = if PB o = false then (16, ⟨#[]⟩) else (0, o)) := by have := HBO2.out; rw [him, if_neg (by decide)] at this; exact this
        obtain ⟨hx2, hf2⟩ := block_facts (unhide K4)
        clear HBO2 him
        go_wp2_with fail
        refine (unhide HPA _ o (by unfold maxLen; omega)).mono ?_
        rintro e w4 ⟨rfl, hb4⟩
        have HB4 : Hid (Below w.heap.size w w4) := bvia hb4 (by omega) (unhide HB3)
        clear hb4
        cases hpb : PB o
        · have HB0 : Hid (BO = (16, ⟨#[]⟩)) := by have := HBO3.out; rw [hpb, if_pos rfl] at this; exact this
          go_wp2
          go_ret2
          exact ⟨ret_two (by rw [HB0.out]) (by rw [HB0.out]; rfl), unhide HB4⟩
        · have HB0 : Hid (BO = (0, o)) := by have := HBO3.out; rw [hpb, if_neg (by decide)] at this; exact this
          go_wp2
          go_ret2
          exact ⟨ret_two (by rw [HB0.out]) (by rw [HB0.out]; rfl), unhide HB4⟩
    · have g1 : ((C : Int) != (a6 : Int)) = true := by simp; omega
      have HB0 : Hid (BO = (15, ⟨#[]⟩)) := by have := HBO'.out; rw [if_pos hcr] at this; exact this
      clear HBO' hc4 hcr
      go_wp2
      go_ret2
      exact ⟨ret_two (by rw [HB0.out]) (by rw [HB0.out]; rfl), (unhide HB2).drew⟩
end
end Go.Proofs.YtjfmiomopfjecabGreat

/- Events over the numbers of a record: a manifest is offered. -/
namespace Go.Proofs.YtjfmiomopfjecabGreat
open Go.RowKit Go.Lib

theorem gwCells_append (l r : List GW) : gwCells (l ++ r) = gwCells l ++ gwCells r := by simp [gwCells]
/-- pages behind pages, in a row of the call's own -/
theorem append_writes {ops : Array Oper} {rest : List Oper} {o : Oper} {a : Act} {Q : Exit → Act → World → Prop} (w : World) (hgd : o.guard = none) (s x : Operand)
    (ho : o.op = .call { callee := .builtin .append, args := #[s, x], argTypes := #[127, 127] })
    (base : Nat) (v : Value) (l r : List GW) (g cap : Nat) (hs : a.eval s = v) (hx : a.eval x = .slice (some ⟨g, 0, none⟩) r.length cap)
    (hown : w.ownsRow base 136 2 v l.length (gwCells l)) (hrow : ∀ j u, (gwCells r)[j]? = some u → w.cell? ⟨g, j, none⟩ = some u) (hn : l.length + r.length ≤ 1000000) (hbase : base ≤ w.heap.size)
    (h : ∀ v' w', w'.ownsRow base 136 2 v' (l ++ r).length (gwCells (l ++ r)) → (∀ w0, Below base w0 w → Below base w0 w') → w.heap.size ≤ w'.heap.size → wpList Tryz.prog ops Q rest (a.put o.dst v') w') :
    wpList Tryz.prog ops Q (o :: rest) a w := by
  obtain ⟨i0, hi, hz0, hz1, hz2⟩ := info_parts infoW
  refine wpList_append_own w hgd s x 127 ho base 136 i0 _ 2 24 Tryz.underlying127 hi hz0 hz1 hz2 rfl (by decide) v l.length (gwCells l) hs hown ⟨g, 0, none⟩ r.length cap (gwCells r) hx (by rw [gwCells_length]; omega) ?_ ?_ (by unfold maxLen; omega) ?_ hbase ?_
  · intro j u hj
    rw [add_at]
    exact hrow j u hj
  · intro u hu
    unfold gwCells at hu
    simp only [List.mem_flatMap, List.mem_cons, List.not_mem_nil, or_false] at hu
    obtain ⟨y, _, rfl | rfl⟩ := hu <;> rfl
  · exact Nat.le_trans (Nat.mul_le_mul hn (Nat.le_refl _)) (by omega)
  · intro v' w' hown' hgrow _
    refine h v' w' ?_ (fun w0 hb0 => hb0.grown hgrow hbase (fun k hk => (hown.lt k hk).1)) hgrow.size
    rw [List.length_append, gwCells_append]
    exact hown'
section
variable {pg num kp ph tr s0 v0 s1 v1 th : Nat} {w : World} {b : Nat} {t : TypeId} {key : ByteArray} {F : Nat → Nat} {on : Bool} {wait next age : Nat}
set_option maxRecDepth 10000 in
theorem rawOffer_busy (hd : DevAt w b t key F on wait next age) (s : ByteArray) :
    Calls Tryz.prog 135 #[.pointer (some ⟨b, 0, none⟩), recV pg num kp 2 tr s0 v0 s1 v1 th, .string s] w fun e w' => OutRaw w on wait next age 11 ⟨#[]⟩ (-1) [] e w' := by
  have HD := hide hd
  clear hd
  go_enter Tryz.func135, Tryz.ntmps135
  go_wp2_with fail
  refine (devFault_any (((unhide HD).alloc _).alloc _) 11).mono ?_
  rintro e w1 ⟨rfl, hb1⟩
  obtain ⟨k1, k2, hs1, hb⟩ := blk2 hb1
  obtain ⟨hx2, hf2⟩ := block_facts k2
  have HB := hide hb
  clear hb hb1 k1 k2
  have l2 : w.heap.size + 1 < w1.heap.size := (by omega); have n2 : ¬ w.heap.size + 1 = w1.heap.size := (by omega)
  go_wp2
  refine bodyPost_ret (v := outV (.slice none 0 0) on wait next age 11 ⟨#[]⟩ (-1)) (by simp [results, Tryz.results135, go_sem, hx2]) rfl (raw_none rfl ?_)
  repeat (first | with_reducible exact unhide HB | with_reducible exact Below.refl _ _ | with_reducible refine bdrew ?_ | (with_reducible refine brow ?_ ?_; (focus (first | omega | (simp; done) | (simp; omega)))) | (with_reducible refine bset ?_ ?_; (focus (first | omega | (simp; done) | (simp; omega)))) | (with_reducible refine balloc ?_ ?_; (focus (first | omega | (simp; done) | (simp; omega)))) | (with_reducible refine bvia (unhide HB1) ?_ ?_; (focus (first | omega | (simp; done) | (simp; omega)))) | (with_reducible refine bvia (unhide HB2) ?_ ?_; (focus (first | omega | (simp; done) | (simp; omega)))) | (with_reducible refine bvia (unhide HB3) ?_ ?_; (focus (first | omega | (simp; done) | (simp; omega)))) | (with_reducible refine bvia (unhide HB4) ?_ ?_; (focus (first | omega | (simp; done) | (simp; omega)))) | (with_reducible refine bvia (unhide HB5) ?_ ?_; (focus (first | omega | (simp; done) | (simp; omega)))) | (with_reducible refine bvia (unhide HB6) ?_ ?_; (focus (first | omega | (simp; done) | (simp; omega)))))
set_option maxRecDepth 10000 in
set_option maxHeartbeats 1000000 in
theorem rawOffer_man (hd : DevAt w b t key F on wait next age) (hp : ph ≠ 2) (s : ByteArray) (hk : key.size ≤ 16) (hs : s.size ≤ maxLen) (h : M.isMan key s = false) :
    Calls Tryz.prog 135 #[.pointer (some ⟨b, 0, none⟩), recV pg num kp ph tr s0 v0 s1 v1 th, .string s] w fun e w' => OutRaw w on wait next age 13 ⟨#[]⟩ (-1) [] e w' := by
  have HD := hide hd
  have hlt := hd.lt
  have cK := hd.keyC
  have hne : ¬ b = w.heap.size := by omega
  have hne1 : ¬ b = w.heap.size + 1 := by omega
  have hp2 : ¬ (ph : Int) = 2 := by omega
  have HM := hide (fun W => manParse_no key s W hk hs h)
  clear hd h
  go_enter Tryz.func135, Tryz.ntmps135
  go_wp2_with fail
  refine (unhide HM _).mono ?_
  rintro e w1 ⟨rfl, hb1⟩
  obtain ⟨k1, k2, hs1, hb⟩ := blk2 hb1
  have HD1 := hide ((((unhide HD).alloc _).alloc _).kept hb1)
  have K2 := hide k2
  have HB1 := hide hb
  clear hb hb1 k1 k2
  go_wp2_with fail
  refine (devFault_any ((unhide HD1).alloc _) 13).mono ?_
  rintro e w2 ⟨rfl, hb2⟩
  obtain ⟨hx2, hf2⟩ := block_facts (kept_block hb2 (alloc_block (unhide K2) _))
  have HB2 := hide hb2
  have hs2 := hb2.size
  simp at hs2
  clear hb2
  have l2 : w.heap.size + 1 < w2.heap.size := (by omega); have n2 : ¬ w.heap.size + 1 = w2.heap.size := (by omega)
  go_wp2
  refine bodyPost_ret (v := outV (.slice none 0 0) on wait next age 13 ⟨#[]⟩ (-1)) (by simp [results, Tryz.results135, go_sem, hx2]) rfl (raw_none rfl ?_)
  repeat (first | with_reducible exact unhide HB | with_reducible exact Below.refl _ _ | with_reducible refine bdrew ?_ | (with_reducible refine brow ?_ ?_; (focus (first | omega | (simp; done) | (simp; omega)))) | (with_reducible refine bset ?_ ?_; (focus (first | omega | (simp; done) | (simp; omega)))) | (with_reducible refine balloc ?_ ?_; (focus (first | omega | (simp; done) | (simp; omega)))) | (with_reducible refine bvia (unhide HB1) ?_ ?_; (focus (first | omega | (simp; done) | (simp; omega)))) | (with_reducible refine bvia (unhide HB2) ?_ ?_; (focus (first | omega | (simp; done) | (simp; omega)))) | (with_reducible refine bvia (unhide HB3) ?_ ?_; (focus (first | omega | (simp; done) | (simp; omega)))) | (with_reducible refine bvia (unhide HB4) ?_ ?_; (focus (first | omega | (simp; done) | (simp; omega)))) | (with_reducible refine bvia (unhide HB5) ?_ ?_; (focus (first | omega | (simp; done) | (simp; omega)))) | (with_reducible refine bvia (unhide HB6) ?_ ?_; (focus (first | omega | (simp; done) | (simp; omega)))))
set_option maxRecDepth 10000 in
set_option maxHeartbeats 1000000 in
theorem rawOffer_ver (hd : DevAt w b t key F on wait next age) (hp : ph ≠ 2) (s : ByteArray) (hk : key.size ≤ 16) (hs : s.size ≤ maxLen) (h : M.isMan key s = true)
    (hv : M.numAt (M.bz s) 0 ≤ (if kp = 0 then v0 else v1) ∨ M.numAt (M.bz s) 2 ≠ (if kp = 0 then v0 else v1)) :
    Calls Tryz.prog 135 #[.pointer (some ⟨b, 0, none⟩), recV pg num kp ph tr s0 v0 s1 v1 th, .string s] w fun e w' => OutRaw w on wait next age 6 ⟨#[]⟩ (-1) [] e w' := by
  have HD := hide hd
  have hlt := hd.lt
  have cK := hd.keyC
  have hne : ¬ b = w.heap.size := by omega
  have hne1 : ¬ b = w.heap.size + 1 := by omega
  have hp2 : ¬ (ph : Int) = 2 := by omega
  have HM := hide (fun W => manParse_yes key s W hk hs h)
  have HS := hide (fun W => recSlot_any pg num kp ph tr s0 v0 s1 v1 th kp W)
  generalize (if kp = 0 then v0 else v1) = kv at *
  generalize (if kp = 0 then s0 else s1) = ks at *
  have HV := hide hv
  clear hd h hv
  go_enter Tryz.func135, Tryz.ntmps135
  go_wp2_with fail
  refine (unhide HM _).mono ?_
  rintro e w1 ⟨ao, n, cap, rfl, hb1⟩
  unfold manOf
  generalize M.numAt (M.bz s) 0 = a0 at *
  generalize M.numAt (M.bz s) 2 = a2 at *
  generalize M.numAt (M.bz s) 6 = a6 at *
  generalize M.bz s 4 = a4 at *
  generalize M.bz s 5 = a5 at *
  generalize M.exB (M.bz s) = x1 at *
  generalize M.exQ (M.bz s) = x2 at *
  generalize M.exA (M.bz s) = x3 at *
  obtain ⟨k1, k2, hs1, hb⟩ := blk2 hb1
  have HD1 := hide ((((unhide HD).alloc _).alloc _).kept hb1)
  obtain ⟨hx1, hf1⟩ := block_facts k1
  have K2 := hide k2
  have HB1 := hide hb
  clear hb hb1 k1 k2
  have l1 : w.heap.size < w1.heap.size := (by omega); have n1 : ¬ w.heap.size = w1.heap.size := (by omega)
  have l2 : w.heap.size + 1 < w1.heap.size := (by omega); have n2 : ¬ w.heap.size + 1 = w1.heap.size := (by omega)
  go_wp2_with fail
  refine (unhide HS _).mono ?_
  rintro e w2 ⟨rfl, hb2⟩
  clear hx1 hf1
  have HD2 := hide (((unhide HD1).alloc _).kept hb2)
  have k2 := kept_block hb2 (alloc_block (unhide K2) _)
  obtain ⟨k3, hs2, hb⟩ := blk1 hb2
  obtain ⟨hx3, hf3⟩ := block_facts k3
  have K2' := hide k2
  have HB2 := hide hb
  clear hb hb2 k2 k3 K2 HS
  have l3 : w1.heap.size < w2.heap.size := (by omega); have n3 : ¬ w1.heap.size = w2.heap.size := (by omega)
  rcases (by have := unhide HV; omega : a0 ≤ kv ∨ ¬ a0 ≤ kv ∧ a2 ≠ kv) with h1 | ⟨h1, h2⟩
  · have g1 : (a0 : Int) ≤ (kv : Int) := by omega
    go_wp2_with fail
    refine (devFault_any ((unhide HD2).alloc _) 6).mono ?_
    rintro e w3 ⟨rfl, hb3⟩
    obtain ⟨hx2, hf2⟩ := block_facts (kept_block hb3 (alloc_block (unhide K2') _))
    have HB3 := hide hb3
    have hs3 := hb3.size
    simp at hs3
    clear hb3
    have l4 : w.heap.size + 1 < w3.heap.size := (by omega); have n4 : ¬ w.heap.size + 1 = w3.heap.size := (by omega)
    go_wp2
    refine bodyPost_ret (v := outV (.slice none 0 0) on wait next age 6 ⟨#[]⟩ (-1)) (by simp [results, Tryz.results135, go_sem, hx2]) rfl (raw_none rfl ?_)
    repeat (first | with_reducible exact unhide HB | with_reducible exact Below.refl _ _ | with_reducible refine bdrew ?_ | (with_reducible refine brow ?_ ?_; (focus (first | omega | (simp; done) | (simp; omega)))) | (with_reducible refine bset ?_ ?_; (focus (first | omega | (simp; done) | (simp; omega)))) | (with_reducible refine balloc ?_ ?_; (focus (first | omega | (simp; done) | (simp; omega)))) | (with_reducible refine bvia (unhide HB1) ?_ ?_; (focus (first | omega | (simp; done) | (simp; omega)))) | (with_reducible refine bvia (unhide HB2) ?_ ?_; (focus (first | omega | (simp; done) | (simp; omega)))) | (with_reducible refine bvia (unhide HB3) ?_ ?_; (focus (first | omega | (simp; done) | (simp; omega)))) | (with_reducible refine bvia (unhide HB4) ?_ ?_; (focus (first | omega | (simp; done) | (simp; omega)))) | (with_reducible refine bvia (unhide HB5) ?_ ?_; (focus (first | omega | (simp; done) | (simp; omega)))) | (with_reducible refine bvia (unhide HB6) ?_ ?_; (focus (first | omega | (simp; done) | (simp; omega)))))
  · have g1 : ¬ (a0 : Int) ≤ (kv : Int) := by omega
    have g2 : ((a2 : Int) != (kv : Int)) = true := by simp; omega
    go_wp2_with fail
    refine (devFault_any ((unhide HD2).alloc _) 6).mono ?_
    rintro e w3 ⟨rfl, hb3⟩
    obtain ⟨hx2, hf2⟩ := block_facts (kept_block hb3 (alloc_block (unhide K2') _))
    have HB3 := hide hb3
    have hs3 := hb3.size
    simp at hs3
    clear hb3
    have l4 : w.heap.size + 1 < w3.heap.size := (by omega); have n4 : ¬ w.heap.size + 1 = w3.heap.size := (by omega)
    go_wp2
    refine bodyPost_ret (v := outV (.slice none 0 0) on wait next age 6 ⟨#[]⟩ (-1)) (by simp [results, Tryz.results135, go_sem, hx2]) rfl (raw_none rfl ?_)
    repeat (first | with_reducible exact unhide HB | with_reducible exact Below.refl _ _ | with_reducible refine bdrew ?_ | (with_reducible refine brow ?_ ?_; (focus (first | omega | (simp; done) | (simp; omega)))) | (with_reducible refine bset ?_ ?_; (focus (first | omega | (simp; done) | (simp; omega)))) | (with_reducible refine balloc ?_ ?_; (focus (first | omega | (simp; done) | (simp; omega)))) | (with_reducible refine bvia (unhide HB1) ?_ ?_; (focus (first | omega | (simp; done) | (simp; omega)))) | (with_reducible refine bvia (unhide HB2) ?_ ?_; (focus (first | omega | (simp; done) | (simp; omega)))) | (with_reducible refine bvia (unhide HB3) ?_ ?_; (focus (first | omega | (simp; done) | (simp; omega)))) | (with_reducible refine bvia (unhide HB4) ?_ ?_; (focus (first | omega | (simp; done) | (simp; omega)))) | (with_reducible refine bvia (unhide HB5) ?_ ?_; (focus (first | omega | (simp; done) | (simp; omega)))) | (with_reducible refine bvia (unhide HB6) ?_ ?_; (focus (first | omega | (simp; done) | (simp; omega)))))
end
end Go.Proofs.YtjfmiomopfjecabGreat

/- A manifest that is offered is taken. -/
namespace Go.Proofs.YtjfmiomopfjecabGreat
open Go.RowKit Go.Lib

theorem row_of {W : World} {base : Nat} {v : Value} {l : List GW} (h : W.ownsRow base 136 2 v l.length (gwCells l)) (hl : 0 < l.length) : ∃ g cap, v = .slice (some ⟨g, 0, none⟩) l.length cap ∧ base ≤ g ∧ ∀ j u, (gwCells l)[j]? = some u → W.cell? ⟨g, j, none⟩ = some u := by
  obtain ⟨ao, cap, rfl, -, -, hc⟩ := (holdsRow_own h).shape
  obtain ⟨g, rfl, -, hcells⟩ := hc hl
  exact ⟨g, cap, rfl, (h.lt g rfl).1, hcells⟩
section
variable {pg num kp ph tr s0 v0 s1 v1 th : Nat} {w : World} {b : Nat} {t : TypeId} {key : ByteArray} {F : Nat → Nat} {on : Bool} {wait next age : Nat}
set_option maxRecDepth 10000 in
set_option maxHeartbeats 2000000 in
theorem rawOffer_yes (hd : DevAt w b t key F on wait next age) (hr : RecOk pg num kp ph tr s0 v0 s1 v1 th) (hp : ph ≠ 2) (hp1 : ph ≠ 1) (s : ByteArray) (hk : key.size ≤ 16) (hs : s.size ≤ maxLen) (h : M.isMan key s = true)
    (hv0 : (if kp = 0 then v0 else v1) < M.numAt (M.bz s) 0) (hv2 : M.numAt (M.bz s) 2 = (if kp = 0 then v0 else v1)) :
    Calls Tryz.prog 135 #[.pointer (some ⟨b, 0, none⟩), recV pg num kp ph tr s0 v0 s1 v1 th, .string s] w fun e w' => OutRaw w on 0 1 age 0 ⟨#[]⟩ (-1) (spreadG 2 3 s ++ [(1 - pg, recP ((num + 1) % 256) kp 1 0 s0 v0 s1 v1 0)]) e w' := by
  have HD := hide hd
  have hlt := hd.lt
  have cK := hd.keyC
  have hne : ¬ b = w.heap.size := by omega
  have hne1 : ¬ b = w.heap.size + 1 := by omega
  have hp2 : ¬ (ph : Int) = 2 := by omega
  have hp3 : ¬ (ph : Int) = 1 := by omega
  have HM := hide (fun W => manParse_yes key s W hk hs h)
  have HS := hide (fun W => recSlot_any pg num kp ph tr s0 v0 s1 v1 th kp W)
  have HFT := hide (fun W => recFetching_any pg num kp ph tr s0 v0 s1 v1 th W hr.1 hr.2.1)
  have HW := hide (fun W => written_ok (next_ok (p := 1) (q := 0) (k := kp) (t := 0) hr (by omega) (by omega) hr.2.2.1 (by omega)) W)
  have HSP := hide (fun W => spread_any 2 3 s W hs (by omega) (by omega))
  generalize (if kp = 0 then v0 else v1) = kv at *
  generalize (if kp = 0 then s0 else s1) = ks at *
  have HV2 := hide hv2
  clear hd h hv2 hr
  go_enter Tryz.func135, Tryz.ntmps135
  go_wp2_with fail
  refine (unhide HM _).mono ?_
  rintro e w1 ⟨ao, n, cap, rfl, hb1⟩
  unfold manOf
  generalize M.numAt (M.bz s) 0 = a0 at *
  generalize M.numAt (M.bz s) 2 = a2 at *
  generalize M.numAt (M.bz s) 6 = a6 at *
  generalize M.bz s 4 = a4 at *
  generalize M.bz s 5 = a5 at *
  generalize M.exB (M.bz s) = x1 at *
  generalize M.exQ (M.bz s) = x2 at *
  generalize M.exA (M.bz s) = x3 at *
  obtain ⟨k1, k2, hs1, hb⟩ := blk2 hb1
  have HD1 := hide ((((unhide HD).alloc _).alloc _).kept hb1)
  obtain ⟨hx1, hf1⟩ := block_facts k1
  have K1 := hide k1
  have K2 := hide k2
  have HB1 := hide hb
  clear hb hb1 k1 k2
  have l1 : w.heap.size < w1.heap.size := (by omega); have n1 : ¬ w.heap.size = w1.heap.size := (by omega)
  have l2 : w.heap.size + 1 < w1.heap.size := (by omega); have n2 : ¬ w.heap.size + 1 = w1.heap.size := (by omega)
  go_wp2_with fail
  refine (unhide HS _).mono ?_
  rintro e w2 ⟨rfl, hb2⟩
  clear hx1 hf1
  have HD2 := hide (((unhide HD1).alloc _).kept hb2)
  have k1 := kept_block hb2 (alloc_block (unhide K1) _)
  have k2 := kept_block hb2 (alloc_block (unhide K2) _)
  obtain ⟨k3, hs2, hb⟩ := blk1 hb2
  obtain ⟨hx1, hf1⟩ := block_facts k1
  obtain ⟨hx3, hf3⟩ := block_facts k3
  have K1' := hide k1
  have K2' := hide k2
  have HB2 := hide hb
  clear hb hb2 k1 k2 k3 K1 K2 HS HD1
  have l3 : w1.heap.size < w2.heap.size := (by omega); have n3 : ¬ w1.heap.size = w2.heap.size := (by omega)
  have l4 : w.heap.size < w2.heap.size := (by omega); have n4 : ¬ w.heap.size = w2.heap.size := (by omega)
  have g1 : ¬ (a0 : Int) ≤ (kv : Int) := by omega
  have g2 : ((a2 : Int) != (kv : Int)) = false := by have := HV2.out; simp; omega
  go_wp2_with fail
  refine (unhide HSP _).mono ?_
  rintro e w3 ⟨v, rfl, hown, hb3⟩
  have HD3 := hide (((unhide HD2).alloc _).kept hb3)
  have k1 := kept_block hb3 (alloc_block (unhide K1') _)
  have k2 := kept_block hb3 (alloc_block (unhide K2') _)
  obtain ⟨g, c3, rfl, hg3, hcells⟩ := row_of (l := spreadG 2 3 s) hown (by rw [spreadG_length]; omega)
  have HC3 := hide hcells
  have HB3 := hide hb3
  have hs3 := hb3.size
  simp at hs3 hg3
  clear hx1 hf1 hx3 hf3 hcells hb3 hown
  have K1 := hide k1
  have K2 := hide k2
  clear k1 k2 K1' K2' HD2
  have HL3 := hide (spreadG_length 2 3 s)
  go_wp2_with (at_builtin; (refine append_writes _ rfl (.tmp 57) (.tmp 59) rfl w3.heap.size (.slice none 0 0) [] (spreadG 2 3 s) g c3 rfl rfl (World.ownsRow_nil _ _ _ _) (unhide HC3) (by rw [HL3.out]; show 0 + 3 ≤ _; omega) (Nat.le_refl _) ?_); intro v4 w4 hown4 hbel4 hsz4; obtain ⟨ao4, cap4, hv4, -⟩ := (holdsRow_own hown4).shape; subst hv4; have hB4 := hbel4 _ (Below.refl _ _); obtain ⟨hx1, hf1⟩ := block_facts (kept_block hB4 (unhide K1)))
  clear hx1 hf1
  refine (unhide HFT _).mono ?_
  rintro e w5 ⟨rfl, hb5⟩
  have K2' := hide (kept_block hb5 (kept_block hB4 (unhide K2)))
  have HD5 := hide (((unhide HD3).kept hB4).kept hb5)
  have HO5 : Hid (w5.ownsRow w3.heap.size 136 2 (.slice ao4 (spreadG 2 3 s).length cap4) (spreadG 2 3 s).length (gwCells (spreadG 2 3 s))) := ownsRow_below hown4 hb5
  have hs5 := hb5.size
  have HB5 : Hid (Below w.heap.size w w5) := by
    refine bvia hb5 (by omega) ?_
    refine hB4.mono (by omega) |> fun h => Below.trans ?_ h
    repeat (first | with_reducible exact unhide HB | with_reducible exact Below.refl _ _ | with_reducible refine bdrew ?_ | (with_reducible refine brow ?_ ?_; (focus (first | omega | (simp; done) | (simp; omega)))) | (with_reducible refine bset ?_ ?_; (focus (first | omega | (simp; done) | (simp; omega)))) | (with_reducible refine balloc ?_ ?_; (focus (first | omega | (simp; done) | (simp; omega)))) | (with_reducible refine bvia (unhide HB1) ?_ ?_; (focus (first | omega | (simp; done) | (simp; omega)))) | (with_reducible refine bvia (unhide HB2) ?_ ?_; (focus (first | omega | (simp; done) | (simp; omega)))) | (with_reducible refine bvia (unhide HB3) ?_ ?_; (focus (first | omega | (simp; done) | (simp; omega)))) | (with_reducible refine bvia (unhide HB4) ?_ ?_; (focus (first | omega | (simp; done) | (simp; omega)))) | (with_reducible refine bvia (unhide HB5) ?_ ?_; (focus (first | omega | (simp; done) | (simp; omega)))) | (with_reducible refine bvia (unhide HB6) ?_ ?_; (focus (first | omega | (simp; done) | (simp; omega)))))
  clear hb5 hown4 hbel4 hB4 K1 K2 HD3 HB1 HB2 HB3 HC3
  generalize hN : (num + 1) % 256 = N at *; generalize hP : 1 - pg = P at *; have HN := hide hN; have HP := hide hP; clear hN hP
  go_wp2_with fail
  refine (unhide HW _).mono ?_
  rintro e w6 ⟨rfl, hb6⟩
  have K2 := hide (kept_block hb6 (unhide K2'))
  have HD6 := hide ((unhide HD5).kept hb6)
  have HO6 := hide (ownsRow_below (unhide HO5) hb6)
  have hs6 := hb6.size
  have HB6 : Hid (Below w.heap.size w w6) := bvia hb6 (by omega) (unhide HB5)
  clear hb6 HB5 HO5 HD5 K2'
  generalize hT : recP N kp 1 0 s0 v0 s1 v1 0 = T at *
  have HT := hide hT
  clear hT
  go_wp2_with (at_builtin; (refine append_write _ rfl (.tmp 61) (.tmp 65) rfl w3.heap.size (.slice ao4 (spreadG 2 3 s).length cap4) (spreadG 2 3 s) _ (P, T) rfl rfl rfl (unhide HO6) (by rw [HL3.out]; omega) (by omega) ?_); intro v7 w7 hown7 hbel7 hsz7; obtain ⟨ao7, cap7, hv7, -⟩ := (holdsRow_own hown7).shape; subst hv7)
  have hB7 := hbel7 w6 (Below.refl _ _)
  have e7 : w7.heap[w.heap.size + 1]? = some (.cells (outC (.slice none 0 0) false 0 0 0 0 ⟨#[]⟩ 0) 163 (0, 0)) := (hB7.block _ (by omega)).trans (unhide K2)
  have HD7 : Hid (DevAt w7 b t key F on wait next age) := (hB7.block b (by omega)).trans (unhide HD6)
  have HO7 := hide hown7
  have HB7 : Hid (Below w.heap.size w w7) := (unhide HB6).trans (hB7.mono (by omega))
  have K7 := hide e7
  clear hown7 hbel7 hB7 e7 HD6 HB6 HO6 K2
  refine (devEager_any (unhide HD7) ao7 _ cap7).mono ?_
  rintro e w8 ⟨rfl, hb8⟩
  obtain ⟨hx2, hf2⟩ := block_facts (kept_block hb8 (unhide K7))
  have HO8 := hide (ownsRow_below (unhide HO7) hb8)
  have hs8 := hb8.size
  have HB : Hid (Below w.heap.size w w8) := bvia hb8 (by omega) (unhide HB7)
  clear hb8 HB7 HO7
  have l8 : w.heap.size + 1 < w8.heap.size := (by omega); have n8 : ¬ w.heap.size + 1 = w8.heap.size := (by omega)
  have HN8 : Hid ((spreadG 2 3 s ++ [(P, T)]).length = (spreadG 2 3 s).length + 1) := by show _ = _; rw [List.length_append]; rfl
  go_wp2
  refine bodyPost_ret (v := outV (.slice ao7 ((spreadG 2 3 s).length + 1) cap7) on 0 1 age 0 ⟨#[]⟩ (-1)) (by simp [results, Tryz.results135, go_sem, hx2]) rfl ?_
  rw [HN.out, HP.out, HT.out]
  refine ⟨ao7, cap7, by rw [HN8.out]; rfl, ?_, ?_⟩
  · refine ownsRow_base (base' := w3.heap.size) ?_ (by omega)
    iterate 8 refine ownsRow_setCell_below ?_ (by show w.heap.size + 1 < w3.heap.size; omega) _
    exact unhide HO8
  · repeat (first | with_reducible exact unhide HB | with_reducible exact Below.refl _ _ | with_reducible refine bdrew ?_ | (with_reducible refine brow ?_ ?_; (focus (first | omega | (simp; done) | (simp; omega)))) | (with_reducible refine bset ?_ ?_; (focus (first | omega | (simp; done) | (simp; omega)))) | (with_reducible refine balloc ?_ ?_; (focus (first | omega | (simp; done) | (simp; omega)))) | (with_reducible refine bvia (unhide HB1) ?_ ?_; (focus (first | omega | (simp; done) | (simp; omega)))) | (with_reducible refine bvia (unhide HB2) ?_ ?_; (focus (first | omega | (simp; done) | (simp; omega)))) | (with_reducible refine bvia (unhide HB3) ?_ ?_; (focus (first | omega | (simp; done) | (simp; omega)))) | (with_reducible refine bvia (unhide HB4) ?_ ?_; (focus (first | omega | (simp; done) | (simp; omega)))) | (with_reducible refine bvia (unhide HB5) ?_ ?_; (focus (first | omega | (simp; done) | (simp; omega)))) | (with_reducible refine bvia (unhide HB6) ?_ ?_; (focus (first | omega | (simp; done) | (simp; omega)))))
set_option maxRecDepth 10000 in
set_option maxHeartbeats 2000000 in
theorem rawOffer_more (hd : DevAt w b t key F on wait next age) (hr : RecOk pg num kp 1 tr s0 v0 s1 v1 th) (s : ByteArray) (hk : key.size ≤ 16) (hs : s.size ≤ maxLen) (h : M.isMan key s = true)
    (hv0 : (if kp = 0 then v0 else v1) < M.numAt (M.bz s) 0) (hv2 : M.numAt (M.bz s) 2 = (if kp = 0 then v0 else v1)) :
    Calls Tryz.prog 135 #[.pointer (some ⟨b, 0, none⟩), recV pg num kp 1 tr s0 v0 s1 v1 th, .string s] w fun e w' => OutRaw w on 0 1 age 0 ⟨#[]⟩ (-1) ([(1 - pg, recP ((num + 1) % 256) kp 0 0 s0 v0 s1 v1 0)] ++ spreadG 2 3 s ++ [(1 - (1 - pg), recP (((num + 1) % 256 + 1) % 256) kp 1 0 s0 v0 s1 v1 0)]) e w' := by
  have HD := hide hd
  have hlt := hd.lt
  have cK := hd.keyC
  have hne : ¬ b = w.heap.size := by omega
  have hne1 : ¬ b = w.heap.size + 1 := by omega
  have HM := hide (fun W => manParse_yes key s W hk hs h)
  have HS := hide (fun W => recSlot_any pg num kp 1 tr s0 v0 s1 v1 th kp W)
  have hok := next_ok (p := 0) (q := 0) (k := kp) (t := 0) hr (by omega) (by omega) hr.2.2.1 (by omega)
  have HST := hide (fun W => opaq (recSteady_any pg num kp 1 tr s0 v0 s1 v1 th W hr.1 hr.2.1))
  have HW0 := hide (fun W => written_ok hok W)
  have HFT := hide (fun W => recFetching_any (1 - pg) ((num + 1) % 256) kp 0 0 s0 v0 s1 v1 0 W hok.1 hok.2.1)
  have HW := hide (fun W => written_ok (next_ok (p := 1) (q := 0) (k := kp) (t := 0) hok (by omega) (by omega) hr.2.2.1 (by omega)) W)
  clear hok
  have HSP := hide (fun W => spread_any 2 3 s W hs (by omega) (by omega))
  generalize (if kp = 0 then v0 else v1) = kv at *
  generalize (if kp = 0 then s0 else s1) = ks at *
  have HV2 := hide hv2
  clear hd h hv2 hr
  go_enter Tryz.func135, Tryz.ntmps135
  go_wp2_with fail
  refine (unhide HM _).mono ?_
  rintro e w1 ⟨ao, n, cap, rfl, hb1⟩
  unfold manOf
  generalize M.numAt (M.bz s) 0 = a0 at *
  generalize M.numAt (M.bz s) 2 = a2 at *
  generalize M.numAt (M.bz s) 6 = a6 at *
  generalize M.bz s 4 = a4 at *
  generalize M.bz s 5 = a5 at *
  generalize M.exB (M.bz s) = x1 at *
  generalize M.exQ (M.bz s) = x2 at *
  generalize M.exA (M.bz s) = x3 at *
  obtain ⟨k1, k2, hs1, hb⟩ := blk2 hb1
  have HD1 := hide ((((unhide HD).alloc _).alloc _).kept hb1)
  obtain ⟨hx1, hf1⟩ := block_facts k1
  have K1 := hide k1
  have K2 := hide k2
  have HB1 := hide hb
  clear hb hb1 k1 k2
  have l1 : w.heap.size < w1.heap.size := (by omega); have n1 : ¬ w.heap.size = w1.heap.size := (by omega)
  have l2 : w.heap.size + 1 < w1.heap.size := (by omega); have n2 : ¬ w.heap.size + 1 = w1.heap.size := (by omega)
  go_wp2_with fail
  refine (unhide HS _).mono ?_
  rintro e w2 ⟨rfl, hb2⟩
  clear hx1 hf1
  have HD2 := hide (((unhide HD1).alloc _).kept hb2)
  have k1 := kept_block hb2 (alloc_block (unhide K1) _)
  have k2 := kept_block hb2 (alloc_block (unhide K2) _)
  obtain ⟨k3, hs2, hb⟩ := blk1 hb2
  obtain ⟨hx1, hf1⟩ := block_facts k1
  obtain ⟨hx3, hf3⟩ := block_facts k3
  have K1' := hide k1
  have K2' := hide k2
  have HB2 := hide hb
  clear hb hb2 k1 k2 k3 K1 K2 HS HD1
  have l3 : w1.heap.size < w2.heap.size := (by omega); have n3 : ¬ w1.heap.size = w2.heap.size := (by omega)
  have l4 : w.heap.size < w2.heap.size := (by omega); have n4 : ¬ w.heap.size = w2.heap.size := (by omega)
  have g1 : ¬ (a0 : Int) ≤ (kv : Int) := by omega
  have g2 : ((a2 : Int) != (kv : Int)) = false := by have := HV2.out; simp; omega
  go_wp2_with fail
  refine (unhide HST _).mono ?_
  rintro e wa ⟨C, rfl, HC, hba⟩
  have HDa := hide (((unhide HD2).alloc _).kept hba)
  have ka1 := kept_block hba (alloc_block (unhide K1') _)
  have ka2 := kept_block hba (alloc_block (unhide K2') _)
  have HBa := hide hba
  have hsa := hba.size
  simp at hsa
  clear hx1 hf1 hx3 hf3 hba
  obtain ⟨hx1, hf1⟩ := block_facts ka1
  have Ka1 := hide ka1
  have Ka2 := hide ka2
  clear ka1 ka2 K1' K2' HD2 HST
  generalize hN : (num + 1) % 256 = N at *; generalize hP : 1 - pg = P at *; have HN := hide hN; have HP := hide hP; clear hN hP
  have HDa' : Hid (wa.heap[b]? = some (.cells (devCells key F on wait next age) t (0, 0))) := unhide HDa
  have hC10 : C.size = 10 := by rw [HC.out]; rfl
  have hCn : ¬ C = #[] := fun e => by rw [e] at hC10; exact absurd hC10 (by decide)
  have hst := store_row (c := C) (unhide Ka1) (ty := 133) (by rw [rec_info, hC10]) (by rw [hC10]; rfl) (by rw [HC.out]; simp [Value.oneCell'])
  have HR1 := hide (row_in (C := C) (unhide Ka1))
  have hxr : ∀ o, (wa.setRow w.heap.size C).cell? ⟨w.heap.size, o, none⟩ = (#[.int .i64 P, .int .i64 N, .int .i64 kp, .int .i64 0, .int .i64 0, .int .i64 s0, .int .i64 v0, .int .i64 s1, .int .i64 v1, .int .i64 0] : Array Value)[o]? := fun o => by rw [(block_facts (unhide HR1)).1 o, HC.out]
  clear hx1 hf1
  go_wp2_with fail
  refine (unhide HW0 _).mono ?_
  rintro e wb ⟨rfl, hbb⟩
  have kb1 := kept_block hbb (unhide HR1)
  have kb2 : wb.heap[w.heap.size + 1]? = some (.cells (outC (.slice none 0 0) false 0 0 0 0 ⟨#[]⟩ 0) 163 (0, 0)) := kept_block hbb (row_else (by omega) (unhide Ka2))
  have kbd : wb.heap[b]? = some (.cells (devCells key F on wait next age) t (0, 0)) := kept_block hbb (row_else (by omega) (unhide HDa'))
  have HB3 := HBa
  have hsb := hbb.size
  rw [row_size] at hsb
  have HB0 : Hid (Below w.heap.size w wb) := by
    show Below _ _ _
    refine bvia hbb (by rw [row_size]; omega) ?_
    repeat (first | with_reducible exact unhide HB | with_reducible exact Below.refl _ _ | with_reducible refine bdrew ?_ | (with_reducible refine brow ?_ ?_; (focus (first | omega | (simp; done) | (simp; omega)))) | (with_reducible refine bset ?_ ?_; (focus (first | omega | (simp; done) | (simp; omega)))) | (with_reducible refine balloc ?_ ?_; (focus (first | omega | (simp; done) | (simp; omega)))) | (with_reducible refine bvia (unhide HB1) ?_ ?_; (focus (first | omega | (simp; done) | (simp; omega)))) | (with_reducible refine bvia (unhide HB2) ?_ ?_; (focus (first | omega | (simp; done) | (simp; omega)))) | (with_reducible refine bvia (unhide HB3) ?_ ?_; (focus (first | omega | (simp; done) | (simp; omega)))) | (with_reducible refine bvia (unhide HB4) ?_ ?_; (focus (first | omega | (simp; done) | (simp; omega)))) | (with_reducible refine bvia (unhide HB5) ?_ ?_; (focus (first | omega | (simp; done) | (simp; omega)))) | (with_reducible refine bvia (unhide HB6) ?_ ?_; (focus (first | omega | (simp; done) | (simp; omega)))))
  clear hbb HB1 HB2 HB3 HBa HDa HDa' Ka1 Ka2 HW0
  have KB1 := hide kb1
  have KB2 := hide kb2
  have KBD := hide kbd
  clear kb1 kb2 kbd
  generalize hT0 : recP N kp 0 0 s0 v0 s1 v1 0 = T0 at *
  have HT0 := hide hT0
  clear hT0
  go_wp2_with (at_builtin; (refine append_write _ rfl (.tmp 52) (.tmp 55) rfl wb.heap.size (.slice none 0 0) [] _ (P, T0) rfl rfl rfl (World.ownsRow_nil _ _ _ _) (by show 0 + 1 ≤ _; omega) (Nat.le_refl _) ?_); intro vc wc hownc hbelc hszc; obtain ⟨aoc, capc, hvc, -⟩ := (holdsRow_own hownc).shape; subst hvc; have hBc := hbelc _ (Below.refl _ _))
  have KC1 := hide ((hBc.block w.heap.size (by omega)).trans (unhide KB1))
  have KC2 := hide ((hBc.block (w.heap.size + 1) (by omega)).trans (unhide KB2))
  have KCD := hide ((hBc.block b (by omega)).trans (unhide KBD))
  have HOc : Hid (wc.ownsRow wb.heap.size 136 2 (.slice aoc 1 capc) [(P, T0)].length (gwCells [(P, T0)])) := hownc
  have HBc : Hid (Below w.heap.size w wc) := (unhide HB0).trans (hBc.mono (by omega))
  clear hownc hbelc hBc KB1 KB2 KBD HB0 hxr
  refine (unhide HSP _).mono ?_
  rintro e w3 ⟨v, rfl, hown, hb3⟩
  have k1 := kept_block hb3 (unhide KC1)
  have k2 := kept_block hb3 (unhide KC2)
  have kd := kept_block hb3 (unhide KCD)
  obtain ⟨g, c3, rfl, hg3, hcells⟩ := row_of (l := spreadG 2 3 s) hown (by rw [spreadG_length]; omega)
  have HC3 := hide hcells
  have HO3 := hide (ownsRow_below (unhide HOc) hb3)
  have hs3 := hb3.size
  have HB3 : Hid (Below w.heap.size w w3) := bvia hb3 (by omega) (unhide HBc)
  clear hcells hb3 hown KC1 KC2 KCD HOc HBc
  have K1 := hide k1
  have K2 := hide k2
  have KD := hide kd
  clear k1 k2 kd
  have HL3 := hide (spreadG_length 2 3 s)
  go_wp2_with (at_builtin; (refine append_writes _ rfl (.tmp 57) (.tmp 59) rfl wb.heap.size (.slice aoc 1 capc) [(P, T0)] (spreadG 2 3 s) g c3 rfl rfl (unhide HO3) (unhide HC3) (by rw [HL3.out]; show 1 + 3 ≤ _; omega) (by omega) ?_); intro v4 w4 hown4 hbel4 hsz4; obtain ⟨ao4, cap4, hv4, -⟩ := (holdsRow_own hown4).shape; subst hv4; have hB4 := hbel4 _ (Below.refl _ _); have hx1 : ∀ o, w4.cell? ⟨w.heap.size, o, none⟩ = (#[.int .i64 P, .int .i64 N, .int .i64 kp, .int .i64 0, .int .i64 0, .int .i64 s0, .int .i64 v0, .int .i64 s1, .int .i64 v1, .int .i64 0] : Array Value)[o]? := (fun o => by rw [(block_facts ((hB4.block w.heap.size (by omega)).trans (unhide K1))).1 o, HC.out]))
  clear hx1
  refine (unhide HFT _).mono ?_
  rintro e w5 ⟨rfl, hb5⟩
  have K2' := hide (kept_block hb5 ((hB4.block _ (by omega)).trans (unhide K2)))
  have KD5 := hide (kept_block hb5 ((hB4.block b (by omega)).trans (unhide KD)))
  have HO5 := hide (ownsRow_below hown4 hb5)
  have hs5 := hb5.size
  have HB5 : Hid (Below w.heap.size w w5) := bvia hb5 (by omega) ((unhide HB3).trans (hB4.mono (by omega)))
  clear hb5 hown4 hbel4 hB4 K1 K2 KD HB3 HC3 HO3
  generalize hN2 : (N + 1) % 256 = N2 at *
  generalize hP2 : 1 - P = P2 at *
  have HN2 := hide hN2
  have HP2 := hide hP2
  clear hN2 hP2
  go_wp2_with fail
  refine (unhide HW _).mono ?_
  rintro e w6 ⟨rfl, hb6⟩
  have K2 := hide (kept_block hb6 (unhide K2'))
  have KD6 := hide (kept_block hb6 (unhide KD5))
  have HO6 := hide (ownsRow_below (unhide HO5) hb6)
  have hs6 := hb6.size
  have HB6 : Hid (Below w.heap.size w w6) := bvia hb6 (by omega) (unhide HB5)
  clear hb6 HB5 HO5 KD5 K2'
  generalize hT : recP N2 kp 1 0 s0 v0 s1 v1 0 = T at *
  have HT := hide hT
  clear hT
  go_wp2_with (at_builtin; (refine append_write _ rfl (.tmp 61) (.tmp 65) rfl wb.heap.size (.slice ao4 ((spreadG 2 3 s).length + 1) cap4) ([(P, T0)] ++ spreadG 2 3 s) _ (P2, T) rfl rfl rfl (unhide HO6) (by show (spreadG 2 3 s).length + 1 + 1 ≤ _; rw [HL3.out]; omega) (by omega) ?_); intro v7 w7 hown7 hbel7 hsz7; obtain ⟨ao7, cap7, hv7, -⟩ := (holdsRow_own hown7).shape; subst hv7)
  have hB7 := hbel7 w6 (Below.refl _ _)
  have e7 := (hB7.block _ (by omega)).trans (unhide K2)
  have HD7 : Hid (DevAt w7 b t key F on wait next age) := (hB7.block b (by omega)).trans (unhide KD6)
  have HO7 := hide hown7
  have HB7 : Hid (Below w.heap.size w w7) := (unhide HB6).trans (hB7.mono (by omega))
  have K7 := hide e7
  clear hown7 hbel7 hB7 e7 KD6 HB6 HO6 K2
  refine (devEager_any (unhide HD7) ao7 _ cap7).mono ?_
  rintro e w8 ⟨rfl, hb8⟩
  obtain ⟨hx2, hf2⟩ := block_facts (kept_block hb8 (unhide K7))
  have HO8 := hide (ownsRow_below (unhide HO7) hb8)
  have hs8 := hb8.size
  have HB : Hid (Below w.heap.size w w8) := bvia hb8 (by omega) (unhide HB7)
  clear hb8 HB7 HO7
  have l8 : w.heap.size + 1 < w8.heap.size := (by omega); have n8 : ¬ w.heap.size + 1 = w8.heap.size := (by omega)
  go_wp2
  refine bodyPost_ret (v := outV (.slice ao7 ((spreadG 2 3 s).length + 1 + 1) cap7) on 0 1 age 0 ⟨#[]⟩ (-1)) (by simp [results, Tryz.results135, go_sem, hx2]) rfl ?_
  rw [HN.out, HP.out, HN2.out, HP2.out, HT.out, HT0.out]
  refine ⟨ao7, cap7, by rw [List.length_cons, List.length_append]; rfl, ?_, ?_⟩
  · refine ownsRow_base (base' := wb.heap.size) ?_ (by omega)
    iterate 8 refine ownsRow_setCell_below ?_ (by show w.heap.size + 1 < wb.heap.size; omega) _
    exact unhide HO8
  · repeat (first | with_reducible exact unhide HB | with_reducible exact Below.refl _ _ | with_reducible refine bdrew ?_ | (with_reducible refine brow ?_ ?_; (focus (first | omega | (simp; done) | (simp; omega)))) | (with_reducible refine bset ?_ ?_; (focus (first | omega | (simp; done) | (simp; omega)))) | (with_reducible refine balloc ?_ ?_; (focus (first | omega | (simp; done) | (simp; omega)))) | (with_reducible refine bvia (unhide HB1) ?_ ?_; (focus (first | omega | (simp; done) | (simp; omega)))) | (with_reducible refine bvia (unhide HB2) ?_ ?_; (focus (first | omega | (simp; done) | (simp; omega)))) | (with_reducible refine bvia (unhide HB3) ?_ ?_; (focus (first | omega | (simp; done) | (simp; omega)))) | (with_reducible refine bvia (unhide HB4) ?_ ?_; (focus (first | omega | (simp; done) | (simp; omega)))) | (with_reducible refine bvia (unhide HB5) ?_ ?_; (focus (first | omega | (simp; done) | (simp; omega)))) | (with_reducible refine bvia (unhide HB6) ?_ ?_; (focus (first | omega | (simp; done) | (simp; omega)))))
end
end Go.Proofs.YtjfmiomopfjecabGreat

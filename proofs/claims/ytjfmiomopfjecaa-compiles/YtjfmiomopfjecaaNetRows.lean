/- Rows of memory that are read: a slice of n elements whose cells are known; and the walks of the functions that read one value of a list, or take a node. -/
import Derived.Test.YtjfmiomopfjecaaNetLeaf
import Derived.Laws.OwnMore
import Derived.Laws.ResultCell
namespace Go.Proofs.Ytjfmiomopfjecaa
open Go.RowKit

/-- the slice v of n elements is nil and empty, or its cells are xs -/
def HoldsRow (w : World) (v : Value) (n : Nat) (xs : List Value) : Prop :=
  (v = .slice none 0 0 ∧ n = 0) ∨ ∃ g cap, v = .slice (some ⟨g, 0, none⟩) n cap ∧ g < w.heap.size ∧ n ≤ cap ∧ cap ≤ maxLen ∧ ∀ j u, xs[j]? = some u → w.cell? ⟨g, j, none⟩ = some u
theorem HoldsRow.mono {w w' : World} {v : Value} {n : Nat} {xs : List Value} (h : HoldsRow w v n xs) (hb : Below w.heap.size w w') : HoldsRow w' v n xs := by
  rcases h with h | ⟨g, cap, hv, hg, h1, h2, h3⟩
  · exact .inl h
  · exact .inr ⟨g, cap, hv, Nat.lt_of_lt_of_le hg hb.size, h1, h2, fun j u hj => (hb.cell (p := ⟨g, j, none⟩) hg).trans (h3 j u hj)⟩
theorem HoldsRow.len {w : World} {v : Value} {n : Nat} {xs : List Value} (h : HoldsRow w v n xs) : n ≤ maxLen := by
  rcases h with ⟨_, h⟩ | ⟨g, cap, hv, hg, h1, h2, h3⟩
  · subst h; exact Nat.zero_le _
  · exact Nat.le_trans h1 h2
theorem holdsRow_own {w : World} {base : Nat} {e : TypeId} {size : Nat} {v : Value} {n : Nat} {xs : List Value} (h : w.ownsRow base e size v n xs) : HoldsRow w v n xs := by
  rcases h.2 with ⟨hv, hn⟩ | ⟨g, cap, cur, hv, hb, hg, h1, h2, h3, h4⟩
  · exact .inl ⟨hv, hn⟩
  · refine .inr ⟨g, cap, hv, ?_, h1, h2, ?_⟩
    · exact (h.lt g (by rw [hv]; rfl)).2
    · intro j u hj
      have := h.cells (g := g) (by rw [hv]; rfl) j u hj
      rwa [add_at] at this
theorem Below.grownNone {w w' : World} (h : Below w.heap.size w w') : w.grownBy w' none := ⟨h.os, h.tape, h.output, h.size, fun k hk _ => h.block k hk⟩
theorem ownsRow_below {w w' : World} {base : Nat} {e : TypeId} {size : Nat} {v : Value} {n : Nat} {xs : List Value} (h : w.ownsRow base e size v n xs) (hb : Below w.heap.size w w') : w'.ownsRow base e size v n xs :=
  h.kept (Below.grownNone hb) (by cases hv : v.ownBlock <;> simp)
/-- memory that is new and that a row owns, written or grown: what was there stays -/
theorem below_own {w0 w w' : World} {base : Nat} {e : TypeId} {size : Nat} {v : Value} {n : Nat} {xs : List Value} (hb : Below base w0 w) (h : w.ownsRow base e size v n xs) (hg : w.grownBy w' v.ownBlock) (hs : base ≤ w.heap.size) : Below base w0 w' :=
  hb.grown hg hs (fun k hk => (h.lt k hk).1)

def intCells (l : List Int) : List Value := l.map (Value.int .i64)
theorem intCells_at {l : List Int} {i : Nat} (h : i < l.length) : (intCells l)[i]? = some (.int .i64 (l.getD i 0)) := by
  simp [intCells, h]
theorem intCells_snoc (l : List Int) (x : Int) : intCells (l ++ [x]) = intCells l ++ [.int .i64 x] := by simp [intCells]
theorem intCells_length (l : List Int) : (intCells l).length = l.length := by simp [intCells]

theorem wordAt_any (v : Value) (l : List Int) (i : Nat) (w : World) (h : HoldsRow w v l.length (intCells l)) (hi : i ≤ 65535) :
    Calls Try.prog 86 #[v, .int .i64 i] w fun e w' => e = .returned (.int .i64 (l.getD i 0)) ∧ w = w' := by
  have hlen := h.len
  unfold maxLen at hlen
  rcases h with ⟨rfl, hn⟩ | ⟨g, cap, rfl, hg, h1, h2, h3⟩
  · have : l = [] := List.eq_nil_of_length_eq_zero hn
    subst this
    go_enter Try.func86, Try.ntmps86
    go_wp2
    go_ret
    exact ⟨rfl, rfl⟩
  · by_cases hlt : i < l.length
    · have hc := h3 i _ (intCells_at hlt)
      clear h3
      generalize l.getD i 0 = x at *
      generalize l.length = n at *
      go_enter Try.func86, Try.ntmps86
      go_wp2
      go_ret
      exact ⟨rfl, rfl⟩
    · have HE : Hid (l.getD i 0 = 0) := by rw [List.getD_eq_getElem?_getD, List.getElem?_eq_none (by omega)]; rfl
      clear h3
      generalize l.getD i 0 = x at *
      generalize l.length = n at *
      go_enter Try.func86, Try.ntmps86
      go_wp2
      go_ret
      exact ⟨ret_int HE.out.symm, rfl⟩
theorem refOf_any (v : Value) (l : List Int) (i : Nat) (w : World) (h : HoldsRow w v l.length (intCells l)) (hi : i ≤ 65535) :
    Calls Try.prog 46 #[v, .int .i64 i] w fun e w' => e = .returned (.int .i64 (l.getD i 0)) ∧ w = w' := by
  have hlen := h.len
  unfold maxLen at hlen
  rcases h with ⟨rfl, hn⟩ | ⟨g, cap, rfl, hg, h1, h2, h3⟩
  · have : l = [] := List.eq_nil_of_length_eq_zero hn
    subst this
    go_enter Try.func46, Try.ntmps46
    go_wp2
    go_ret
    exact ⟨rfl, rfl⟩
  · by_cases hlt : i < l.length
    · have hc := h3 i _ (intCells_at hlt)
      clear h3
      generalize l.getD i 0 = x at *
      generalize l.length = n at *
      go_enter Try.func46, Try.ntmps46
      go_wp2
      go_ret
      exact ⟨rfl, rfl⟩
    · have HE : Hid (l.getD i 0 = 0) := by rw [List.getD_eq_getElem?_getD, List.getElem?_eq_none (by omega)]; rfl
      clear h3
      generalize l.getD i 0 = x at *
      generalize l.length = n at *
      go_enter Try.func46, Try.ntmps46
      go_wp2
      go_ret
      exact ⟨ret_int HE.out.symm, rfl⟩
theorem refWord_any (s : ByteArray) (i : Int) (w : World) (hs : s.size ≤ maxLen) (h0 : 0 ≤ i) (h1 : i + 1 < s.size) :
    Calls Try.prog 44 #[.string s, .int .i64 i] w fun e w' => e = .returned (.int .i64 ((M.bz s i.toNat : Int) * 256 + M.bz s (i.toNat + 1))) ∧ w = w' := by
  have hb1 := M.bz_lt s i.toNat
  have hb2 := M.bz_lt s (i.toNat + 1)
  have hs' := hs
  unfold maxLen at hs'
  go_enter Try.func44, Try.ntmps44
  go_wp2_with fail
  refine (refNumber_in s _ _ hs h0 (by omega)).mono ?_
  rintro e w' ⟨rfl, rfl⟩
  go_wp2_with fail
  refine (refNumber_in s _ _ hs (by omega) (by omega)).mono ?_
  rintro e w' ⟨rfl, rfl⟩
  rw [show (i + 1).toNat = i.toNat + 1 from by omega]
  go_wp2
  go_ret
  exact ⟨ret_int (by rw [Int.mul_comm]), rfl⟩
end Go.Proofs.Ytjfmiomopfjecaa

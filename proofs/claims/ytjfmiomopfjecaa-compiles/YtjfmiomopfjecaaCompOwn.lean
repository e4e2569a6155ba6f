/- Rows of two kinds side by side, and the box of a code. -/
import Derived.Test.YtjfmiomopfjecaaCompNeed2
import Derived.Test.YtjfmiomopfjecaaCompExec
import Derived.Test.YtjfmiomopfjecaaCodeRead
import Derived.Deep.RegionLaw
namespace Go.Proofs.Ytjfmiomopfjecaa
open Go.RowKit

/-- rows of different elements lie in different blocks -/
theorem ownsRow_other {w : World} {base base' : Nat} {e e' : TypeId} {size size' : Nat} {v v' : Value} {n n' : Nat} {xs xs' : List Value} (h : w.ownsRow base e size v n xs) (h' : w.ownsRow base' e' size' v' n' xs') (hne : e ≠ e') : v.ownBlock = none ∨ v.ownBlock ≠ v'.ownBlock := by
  rcases h.2 with ⟨rfl, _⟩ | ⟨g, cap, cur, rfl, _, hg, _⟩
  · exact .inl rfl
  · rcases h'.2 with ⟨rfl, _⟩ | ⟨g', cap', cur', rfl, _, hg', _⟩
    · exact .inr (by simp [Value.ownBlock])
    · refine .inr ?_
      simp only [Value.ownBlock, ne_eq, Option.some.injEq]
      intro hgg
      rw [← hgg, hg] at hg'
      simp only [Option.some.injEq, Obj.cells.injEq] at hg'
      exact hne hg'.2.1

theorem append_int2 {ops : Array Oper} {rest : List Oper} {o : Oper} {a : Act} {Q : Exit → Act → World → Prop} (w : World) (hgd : o.guard = none) (s x : Operand)
    (ho : o.op = .call { callee := .builtin .append, args := #[s, x], argTypes := #[52, 52] })
    (base : Nat) (v : Value) (l : List Int) (y : Int) (hs : a.eval s = v) (hx : a.eval x = .slice (some ⟨w.heap.size, 0, none⟩) 1 1)
    (hown : w.ownsRow base 3 1 v l.length (intCells l)) (hn : l.length + 1 ≤ 1000000) (hbase : base ≤ w.heap.size)
    (h : ∀ v' w', w'.ownsRow base 3 1 v' (l ++ [y]).length (intCells (l ++ [y])) → (∀ w0, Below base w0 w → Below base w0 w') → w.heap.size ≤ w'.heap.size →
      (∀ e' size' v2 n2 xs2, e' ≠ 3 → w.ownsRow base e' size' v2 n2 xs2 → w'.ownsRow base e' size' v2 n2 xs2) → wpList Try.prog ops Q rest (a.put o.dst v') w') :
    wpList Try.prog ops Q (o :: rest) a (w.alloc (.cells #[.int .i64 y] 3)) := by
  obtain ⟨i0, hi, hz0, hz1, hz2⟩ := info_parts infoI
  refine wpList_append_own _ hgd s x 52 ho base 3 i0 (.int .i64 0) 1 8 Try.underlying52 hi hz0 hz1 hz2 rfl (by decide) v l.length (intCells l) hs (hown.alloc _) ⟨w.heap.size, 0, none⟩ 1 1 [.int .i64 y] hx (by rfl) ?_ ?_ (by unfold maxLen; omega) (by omega) (by simp; omega) ?_
  · intro j u hj
    rw [add_at, World.cell?_alloc_at _ _ _ _ rfl]
    simpa using hj
  · intro u hu; simp at hu; subst hu; rfl
  · intro v' w' hown' hgrow _
    have hsz' : (w.alloc (.cells #[.int .i64 y] 3)).heap.size = w.heap.size + 1 := by simp
    have hg := hgrow.size
    refine h v' w' ?_ (fun w0 hb0 => ?_) (by omega) ?_
    · rw [List.length_append, intCells_snoc]
      exact hown'
    · exact (hb0.alloc hbase _).grown hgrow (by omega) (fun k hk => (hown.lt k hk).1)
    · intro e' size' v2 n2 xs2 hne hrow
      exact (hrow.alloc _).kept hgrow (ownsRow_other hrow hown hne)
theorem append_step2 {ops : Array Oper} {rest : List Oper} {o : Oper} {a : Act} {Q : Exit → Act → World → Prop} (w : World) (hgd : o.guard = none) (s x : Operand)
    (ho : o.op = .call { callee := .builtin .append, args := #[s, x], argTypes := #[57, 57] })
    (base : Nat) (v : Value) (n : Nat) (l : List Int) (p q r t : Int) (hs : a.eval s = v) (hx : a.eval x = .slice (some ⟨w.heap.size, 0, none⟩) 1 1)
    (hown : w.ownsRow base 83 4 v n (intCells l)) (hn : n + 1 ≤ 1000000) (hbase : base ≤ w.heap.size)
    (h : ∀ v' w', w'.ownsRow base 83 4 v' (n + 1) (intCells (l ++ [p, q, r, t])) → (∀ w0, Below base w0 w → Below base w0 w') → w.heap.size ≤ w'.heap.size →
      (∀ e' size' v2 n2 xs2, e' ≠ 83 → w.ownsRow base e' size' v2 n2 xs2 → w'.ownsRow base e' size' v2 n2 xs2) → wpList Try.prog ops Q rest (a.put o.dst v') w') :
    wpList Try.prog ops Q (o :: rest) a (w.alloc (.cells #[.int .i64 p, .int .i64 q, .int .i64 r, .int .i64 t] 83)) := by
  obtain ⟨i0, hi, hz0, hz1, hz2⟩ := info_parts infoStep
  refine wpList_append_own _ hgd s x 57 ho base 83 i0 _ 4 32 Try.underlying57 hi hz0 hz1 hz2 rfl (by decide) v n (intCells l) hs (hown.alloc _) ⟨w.heap.size, 0, none⟩ 1 1 [.int .i64 p, .int .i64 q, .int .i64 r, .int .i64 t] hx (by rfl) ?_ ?_ (by unfold maxLen; omega) (by omega) (by simp; omega) ?_
  · intro j u hj
    rw [add_at, World.cell?_alloc_at _ _ _ _ rfl]
    simpa using hj
  · intro u hu
    simp only [List.mem_cons, List.not_mem_nil, or_false] at hu
    rcases hu with rfl | rfl | rfl | rfl <;> rfl
  · intro v' w' hown' hgrow _
    have hsz' : (w.alloc (.cells #[.int .i64 p, .int .i64 q, .int .i64 r, .int .i64 t] 83)).heap.size = w.heap.size + 1 := by simp
    have hg := hgrow.size
    refine h v' w' ?_ (fun w0 hb0 => ?_) (by omega) ?_
    · have e : intCells (l ++ [p, q, r, t]) = intCells l ++ [.int .i64 p, .int .i64 q, .int .i64 r, .int .i64 t] := by simp [intCells]
      rw [e]
      exact hown'
    · exact (hb0.alloc hbase _).grown hgrow (by omega) (fun k hk => (hown.lt k hk).1)
    · intro e' size' v2 n2 xs2 hne hrow
      exact (hrow.alloc _).kept hgrow (ownsRow_other hrow hown hne)

/-- the box of the code that is made -/
def BoxC (wr : World) (C : Nat) (n q : Nat) (vo vs : Value) : Prop :=
  wr.cell? ⟨C, 0, none⟩ = some (.int .i64 n) ∧ wr.cell? ⟨C, 1, none⟩ = some (.int .i64 q) ∧ wr.cell? ⟨C, 2, none⟩ = some vo ∧ wr.cell? ⟨C, 3, none⟩ = some vs ∧ (∀ o, wr.frozen? ⟨C, o, none⟩ = false) ∧ C < wr.heap.size
theorem BoxC.mono {w w' : World} {C B n q : Nat} {vo vs : Value} (h : BoxC w C n q vo vs) (hb : Below B w w') (hC : C < B) : BoxC w' C n q vo vs := by
  obtain ⟨h0, h1, h2, h3, h4, h5⟩ := h
  exact ⟨(hb.cell (p := ⟨C, 0, none⟩) hC).trans h0, (hb.cell (p := ⟨C, 1, none⟩) hC).trans h1, (hb.cell (p := ⟨C, 2, none⟩) hC).trans h2, (hb.cell (p := ⟨C, 3, none⟩) hC).trans h3, fun o => (hb.frozen (p := ⟨C, o, none⟩) hC).trans (h4 o), Nat.lt_of_lt_of_le h5 hb.size⟩
theorem BoxC.set1 {w : World} {C n q : Nat} {vo vs : Value} (h : BoxC w C n q vo vs) (q' : Nat) : BoxC (w.setCell ⟨C, 1, none⟩ (.int .i64 q')) C n q' vo vs := by
  obtain ⟨h0, h1, h2, h3, h4, h5⟩ := h
  exact ⟨by go_simp, by go_simp, by go_simp, by go_simp, fun o => by have := h4 o; go_simp, by simpa using h5⟩
theorem BoxC.set2 {w : World} {C n q : Nat} {vo vs : Value} (h : BoxC w C n q vo vs) (vo' : Value) : BoxC (w.setCell ⟨C, 2, none⟩ vo') C n q vo' vs := by
  obtain ⟨h0, h1, h2, h3, h4, h5⟩ := h
  exact ⟨by go_simp, by go_simp, by go_simp, by go_simp, fun o => by have := h4 o; go_simp, by simpa using h5⟩
theorem BoxC.set3 {w : World} {C n q : Nat} {vo vs : Value} (h : BoxC w C n q vo vs) (vs' : Value) : BoxC (w.setCell ⟨C, 3, none⟩ vs') C n q vo vs' := by
  obtain ⟨h0, h1, h2, h3, h4, h5⟩ := h
  exact ⟨by go_simp, by go_simp, by go_simp, by go_simp, fun o => by have := h4 o; go_simp, by simpa using h5⟩
theorem wordAt_at (v : Value) (l : List Int) (k : Int) (i : Nat) (w : World) (h : HoldsRow w v l.length (intCells l)) (hi : i ≤ 65535) (hk : k = i) :
    Calls Try.prog 86 #[v, .int .i64 k] w fun e w' => e = .returned (.int .i64 (l.getD i 0)) ∧ w = w' := by
  subst hk
  exact wordAt_any v l i w h hi
/-- all blocks below B but C hold what they held -/
def KeepBut (C B : Nat) (w w' : World) : Prop := (∀ g o, g < B → g ≠ C → w'.cell? ⟨g, o, none⟩ = w.cell? ⟨g, o, none⟩) ∧ B ≤ w'.heap.size
theorem KeepBut.refl (C B : Nat) (w : World) (h : B ≤ w.heap.size) : KeepBut C B w w := ⟨fun _ _ _ _ => rfl, h⟩
theorem KeepBut.below {C B : Nat} {w w1 w2 : World} (h : KeepBut C B w w1) (hb : Below B w1 w2) : KeepBut C B w w2 :=
  ⟨fun g o hg hne => (hb.cell (p := ⟨g, o, none⟩) hg).trans (h.1 g o hg hne), Nat.le_trans h.2 hb.size⟩
theorem KeepBut.set {C B : Nat} {w w1 : World} (h : KeepBut C B w w1) (o : Nat) (v : Value) : KeepBut C B w (w1.setCell ⟨C, o, none⟩ v) :=
  ⟨fun g p hg hne => (World.cell?_setCell_other w1 ⟨C, o, none⟩ ⟨g, p, none⟩ v (by intro e; exact hne (by cases e; rfl))).trans (h.1 g p hg hne), by simpa using h.2⟩
theorem HoldsRow.keepBut {w w' : World} {v : Value} {n : Nat} {xs : List Value} {C : Nat} (h : HoldsRow w v n xs) (hne : v.ownBlock ≠ some C) (hk : KeepBut C w.heap.size w w') : HoldsRow w' v n xs := by
  rcases h with h | ⟨g, cap, rfl, hg, h1, h2, h3⟩
  · exact .inl h
  · refine .inr ⟨g, cap, rfl, Nat.lt_of_lt_of_le hg hk.2, h1, h2, fun j u hj => ?_⟩
    exact (hk.1 g j hg (fun e => hne (by rw [← e]; rfl))).trans (h3 j u hj)
theorem HoldsRow.setOther {w : World} {v : Value} {n : Nat} {xs : List Value} {b : Nat} (h : HoldsRow w v n xs) (hne : v.ownBlock ≠ some b) (o : Nat) (u : Value) : HoldsRow (w.setCell ⟨b, o, none⟩ u) v n xs := by
  rcases h with h | ⟨g, cap, rfl, hg, h1, h2, h3⟩
  · exact .inl h
  · refine .inr ⟨g, cap, rfl, by simpa using hg, h1, h2, fun j u' hj => ?_⟩
    exact (World.cell?_setCell_other w ⟨b, o, none⟩ ⟨g, j, none⟩ u (by intro e; exact hne (by cases e; rfl))).trans (h3 j u' hj)
theorem row_low {w : World} {base b : Nat} {e : TypeId} {size : Nat} {v : Value} {n : Nat} {xs : List Value} (h : w.ownsRow base e size v n xs) (hb : b < base) : v.ownBlock ≠ some b := by
  intro hv
  have := (h.lt b hv).1
  omega
theorem row_not {w : World} {C : Nat} {e : TypeId} {size : Nat} {v : Value} {n : Nat} {xs : List Value} (h : w.ownsRow (C + 1) e size v n xs) : v.ownBlock ≠ some C := by
  intro hv
  have := (h.lt C hv).1
  omega
theorem cellsL_zero (s : ByteArray) : M.cellsL s 0 = List.range (M.bz s 1) := by
  unfold M.cellsL
  rw [Nat.add_zero]
  refine Eq.trans (List.map_congr_left (g := id) fun v hv => ?_) (List.map_id _)
  rw [List.mem_range] at hv
  unfold M.cellOf
  rw [if_pos hv]
  rfl
theorem nz_range_succ (k : Nat) : nz (List.range (k + 1)) = nz (List.range k) ++ [(k : Int)] := by rw [List.range_succ, nz_append]; rfl
def outC (s : ByteArray) (j : Nat) : List Nat := (List.range j).map fun i => M.cellOf s (M.bz s (4 + 3 * M.bz s 2 + i))
theorem outC_succ (s : ByteArray) (j : Nat) : outC s (j + 1) = outC s j ++ [M.cellOf s (M.bz s (4 + 3 * M.bz s 2 + j))] := by
  unfold outC; rw [List.range_succ, List.map_append]; rfl
theorem outC_length (s : ByteArray) (j : Nat) : (outC s j).length = j := by simp [outC]
theorem outC_all (s : ByteArray) : outC s (M.bz s 3) = (M.outL s).map (M.cellOf s) := by
  unfold outC M.outL
  rw [List.map_map]
  rfl
theorem mv_a {s : ByteArray} (h : M.isImage s = true) {k : Nat} (hk : k < M.bz s 2) : M.mvA s k = if 0 < (M.opsL (M.bz s (4 + 3 * k)) (M.bz s (5 + 3 * k)) (M.bz s (6 + 3 * k))).length then (M.cellsL s (k + 1)).getD (M.bz s (5 + 3 * k)) 0 else M.bz s (5 + 3 * k) := by
  show (if 0 < (M.opsL (M.bz s (4 + 3 * k)) (M.bz s (5 + 3 * k)) (M.bz s (6 + 3 * k))).length then _ else _) = _
  split
  · rename_i hp
    have := M.opsAt_lt h hk _ (M.opsL_a hp)
    rw [M.cellsL_at (by omega)]
  · rfl
theorem mv_b {s : ByteArray} (h : M.isImage s = true) {k : Nat} (hk : k < M.bz s 2) : M.mvB s k = if 1 < (M.opsL (M.bz s (4 + 3 * k)) (M.bz s (5 + 3 * k)) (M.bz s (6 + 3 * k))).length then (M.cellsL s (k + 1)).getD (M.bz s (6 + 3 * k)) 0 else M.bz s (6 + 3 * k) := by
  show (if 1 < (M.opsL (M.bz s (4 + 3 * k)) (M.bz s (5 + 3 * k)) (M.bz s (6 + 3 * k))).length then _ else _) = _
  split
  · rename_i hp
    have := M.opsAt_lt h hk _ (M.opsL_b hp)
    rw [M.cellsL_at (by omega)]
  · rfl
end Go.Proofs.Ytjfmiomopfjecaa

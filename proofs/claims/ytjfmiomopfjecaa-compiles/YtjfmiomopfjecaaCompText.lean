/- A code as bytes: straight.Code.Text; slots.Compile. -/
import Derived.Test.YtjfmiomopfjecaaCompOf
import Derived.Test.YtjfmiomopfjecaaPatchLeaf
namespace Go.Proofs.Ytjfmiomopfjecaa
open Go.RowKit Go.Lib

theorem strCells_bytesOf {l : List Nat} (h : M.AllB l) : strCells (M.bytesOf l) = l.map fun x : Nat => Value.int .u8 (x : Int) := by
  unfold strCells M.bytesOf
  show (l.map UInt8.ofNat).toArray.toList.map _ = _
  rw [List.map_map]
  refine List.map_congr_left fun x hx => ?_
  have := h x hx
  show Value.int .u8 ((UInt8.ofNat x).toNat : Int) = _
  rw [UInt8.toNat_ofNat', Nat.mod_eq_of_lt (by omega)]
theorem lit_row {w : World} {base : Nat} (l : List Nat) (k : Nat) (h : M.AllB l) (hk : l.length = k) (hk2 : k ≤ 1000) (hb : base ≤ w.heap.size) :
    (w.alloc (.cells (l.map fun x : Nat => Value.int .u8 (x : Int)).toArray 5)).ownsRow base 5 1 (.slice (some ⟨w.heap.size, 0, none⟩) k k) (M.bytesOf l).size (strCells (M.bytesOf l)) := by
  subst hk
  rw [strCells_bytesOf h, M.bytesOf_size]
  refine ⟨by simp, .inr ⟨w.heap.size, l.length, (l.map fun x : Nat => Value.int .u8 (x : Int)).toArray, rfl, hb, heap_alloc_new w _, Nat.le_refl _, by unfold maxLen; omega, by simp, by rw [Nat.mul_one]; exact List.take_of_length_le (by simp)⟩⟩
theorem append_bytes {ops : Array Oper} {rest : List Oper} {o : Oper} {a : Act} {Q : Exit → Act → World → Prop} (W : World) (hgd : o.guard = none) (s x : Operand)
    (ho : o.op = .call { callee := .builtin .append, args := #[s, x], argTypes := #[63, 63] })
    (base : Nat) (v : Value) (l : ByteArray) (ns : List Nat) (hns : M.AllB ns) (g k cap : Nat) (hk : ns.length = k) (hs : a.eval s = v) (hx : a.eval x = .slice (some ⟨g, 0, none⟩) k cap)
    (hc : ∀ j u, (ns.map fun x : Nat => Value.int .u8 (x : Int))[j]? = some u → W.cell? ⟨g, j, none⟩ = some u)
    (hown : W.ownsRow base 5 1 v l.size (strCells l)) (hn : l.size + k ≤ 1000000) (hbase : base ≤ W.heap.size)
    (h : ∀ v' w', w'.ownsRow base 5 1 v' (l ++ M.bytesOf ns).size (strCells (l ++ M.bytesOf ns)) → (∀ w0, Below base w0 W → Below base w0 w') → W.heap.size ≤ w'.heap.size → wpList Try.prog ops Q rest (a.put o.dst v') w') :
    wpList Try.prog ops Q (o :: rest) a W := by
  obtain ⟨i0, hi, hz0, hz1, hz2⟩ := info_parts infoB
  refine wpList_append_own W hgd s x 63 ho base 5 i0 (.int .u8 0) 1 1 Try.underlying63 hi hz0 hz1 hz2 rfl (by decide) v l.size (strCells l) hs hown ⟨g, 0, none⟩ k cap (ns.map fun x : Nat => Value.int .u8 (x : Int)) hx (by rw [List.length_map]; omega) ?_ ?_ (by unfold maxLen; omega) (by omega) hbase ?_
  · intro j u hj
    rw [add_at]
    exact hc j u hj
  · intro u hu
    simp only [List.mem_map] at hu
    obtain ⟨y, _, rfl⟩ := hu
    rfl
  · intro v' w' hown' hgrow _
    refine h v' w' ?_ (fun w0 hb0 => hb0.grown hgrow hbase (fun k hk => (hown.lt k hk).1)) hgrow.size
    rw [ByteArray.size_append, strCells_append, strCells_bytesOf hns, M.bytesOf_size, hk]
    exact hown'
theorem take_four {l : List Nat} {q : Nat} (h : 4 * q + 4 ≤ l.length) : l.take (4 * (q + 1)) = l.take (4 * q) ++ [l.getD (4 * q) 0, l.getD (4 * q + 1) 0, l.getD (4 * q + 2) 0, l.getD (4 * q + 3) 0] := by
  rw [show 4 * (q + 1) = 4 * q + 1 + 1 + 1 + 1 from by omega]
  rw [List.take_succ_eq_append_getElem (by omega), List.take_succ_eq_append_getElem (by omega), List.take_succ_eq_append_getElem (by omega), List.take_succ_eq_append_getElem (by omega)]
  simp only [List.append_assoc, List.cons_append, List.nil_append, List.getD_eq_getElem?_getD]
  rw [List.getElem?_eq_getElem (by omega), List.getElem?_eq_getElem (by omega), List.getElem?_eq_getElem (by omega), List.getElem?_eq_getElem (by omega)]
  rfl
theorem step_order {s : ByteArray} {q : Nat} (h : q < M.cnt s (M.bz s 2)) :
    (M.stepsM s (M.bz s 2)).getD (4 * q) 0 = (M.stepsT s (M.bz s 2)).getD (4 * q) 0 ∧ (M.stepsM s (M.bz s 2)).getD (4 * q + 1) 0 = (M.stepsT s (M.bz s 2)).getD (4 * q + 2) 0 ∧
    (M.stepsM s (M.bz s 2)).getD (4 * q + 2) 0 = (M.stepsT s (M.bz s 2)).getD (4 * q + 3) 0 ∧ (M.stepsM s (M.bz s 2)).getD (4 * q + 3) 0 = (M.stepsT s (M.bz s 2)).getD (4 * q + 1) 0 := by
  obtain ⟨k, hk, hn, rfl⟩ := M.cnt_find h
  have m0 := M.stepsM_at hk hn (c := 0) (by omega)
  have m1 := M.stepsM_at hk hn (c := 1) (by omega)
  have m2 := M.stepsM_at hk hn (c := 2) (by omega)
  have m3 := M.stepsM_at hk hn (c := 3) (by omega)
  have t0 := M.stepsT_at hk hn (c := 0) (by omega)
  have t1 := M.stepsT_at hk hn (c := 1) (by omega)
  have t2 := M.stepsT_at hk hn (c := 2) (by omega)
  have t3 := M.stepsT_at hk hn (c := 3) (by omega)
  rw [Nat.add_zero] at m0 t0
  rw [m0, m1, m2, m3, t0, t1, t2, t3]
  exact ⟨rfl, rfl, rfl, rfl⟩

/-- the bytes of the code behind the head, k outputs and q instructions -/
def codeTo (s : ByteArray) (n m c t k q : Nat) : List Nat := [75, n, n + t, c, t] ++ (outC s k ++ (M.stepsT s m).take (4 * q))
theorem codeTo_out (s : ByteArray) (n m c t k : Nat) : M.bytesOf (codeTo s n m c t (k + 1) 0) = M.bytesOf (codeTo s n m c t k 0) ++ M.bytesOf [M.cellOf s (M.bz s (4 + 3 * M.bz s 2 + k))] := by
  rw [M.bytesOf_append]
  unfold codeTo
  rw [outC_succ]
  simp
theorem codeTo_step {s : ByteArray} {n m c t k q : Nat} (h : 4 * q + 4 ≤ (M.stepsT s m).length) : M.bytesOf (codeTo s n m c t k (q + 1)) = M.bytesOf (codeTo s n m c t k q) ++ M.bytesOf [(M.stepsT s m).getD (4 * q) 0, (M.stepsT s m).getD (4 * q + 1) 0, (M.stepsT s m).getD (4 * q + 2) 0, (M.stepsT s m).getD (4 * q + 3) 0] := by
  rw [M.bytesOf_append]
  unfold codeTo
  rw [take_four h]
  simp
theorem codeTo_length (s : ByteArray) (n m c t k q : Nat) (h : 4 * q ≤ (M.stepsT s m).length) : (codeTo s n m c t k q).length = 5 + k + 4 * q := by
  unfold codeTo
  rw [List.length_append, List.length_append, outC_length, List.length_take]
  simp
  omega
theorem codeTo_all (s : ByteArray) : codeTo s (M.bz s 1) (M.bz s 2) (M.bz s 3) (M.cnt s (M.bz s 2)) (M.bz s 3) (M.cnt s (M.bz s 2)) = M.codeL s := by
  unfold codeTo M.codeL
  rw [outC_all, List.take_of_length_le (by rw [M.stepsT_length]; exact Nat.le_refl _)]

set_option maxRecDepth 20000 in
set_option maxHeartbeats 1600000 in
theorem text_at (s : ByteArray) (n m c t q0 : Nat) (hq0 : q0 = n + t) (ao as_ : Option Addr) (capo caps : Nat) (w : World) (h : M.isImage s = true) (hn : M.bz s 1 = n) (hm : M.bz s 2 = m) (hc : M.bz s 3 = c) (ht : M.cnt s m = t)
    (hr1 : HoldsRow w (.slice ao c capo) c (intCells (nz (outC s c)))) (hr2 : HoldsRow w (.slice as_ t caps) t (intCells (nz (M.stepsM s m)))) :
    Calls Try.prog 58 #[.agg #[.int .i64 n, .int .i64 q0, .slice ao c capo, .slice as_ t caps]] w fun e w' => e = .returned (.string (M.codeT s)) ∧ Below w.heap.size w w' := by
  obtain ⟨h0, h1, h2, h3, h4, h5, h6⟩ := M.headOk_eq (image_head h)
  have htm := M.cnt_le s (M.bz s 2)
  have HEND : Hid (M.bytesOf (codeTo s n m c t c t) = M.codeT s) := by
    show _ = M.bytesOf (M.codeL s)
    rw [← codeTo_all, hn, hm, hc, ht]
  have HALLO : Hid (∀ j, j < c → M.cellOf s (M.bz s (4 + 3 * M.bz s 2 + j)) < 256) := by
    intro j hj
    have a1 := M.image_outOk h (k := j) (by omega)
    have a2 := M.cellOf_le s (M.bz s (4 + 3 * M.bz s 2 + j)) (M.bz s 2) (by omega)
    omega
  have HALLS : Hid (M.AllB (M.stepsT s m)) := by rw [← hm]; exact M.stepsT_all h _ (Nat.le_refl _)
  have HLT : Hid ((M.stepsT s m).length = 4 * t) := by rw [M.stepsT_length, ht]; rfl
  have HLM : Hid ((M.stepsM s m).length = 4 * t) := by rw [M.stepsM_length, ht]; rfl
  have HORD : Hid (∀ q, q < t → (M.stepsM s m).getD (4 * q) 0 = (M.stepsT s m).getD (4 * q) 0 ∧ (M.stepsM s m).getD (4 * q + 1) 0 = (M.stepsT s m).getD (4 * q + 2) 0 ∧
    (M.stepsM s m).getD (4 * q + 2) 0 = (M.stepsT s m).getD (4 * q + 3) 0 ∧ (M.stepsM s m).getD (4 * q + 3) 0 = (M.stepsT s m).getD (4 * q + 1) 0) := by
    rw [← ht, ← hm]; exact fun q hq => step_order hq
  rw [hm, ht] at htm
  rw [hn] at h1 h2
  rw [hm] at h3
  rw [hc] at h4 h5
  have HAL0 : Hid (M.AllB [75, n, q0, c, t]) := by intro x hx; simp only [List.mem_cons, List.not_mem_nil, or_false] at hx; omega
  have HOC : Hid (∀ k, (outC s (k + 1)).getD k 0 = M.cellOf s (M.bz s (4 + 3 * M.bz s 2 + k))) := by
    intro k
    rw [outC_succ, M.getD_append_right (by rw [outC_length]; exact Nat.le_refl _), outC_length, Nat.sub_self]
    rfl
  obtain ⟨ga, rfl, hga, hcella⟩ : ∃ g, ao = some ⟨g, 0, none⟩ ∧ g < w.heap.size ∧ ∀ j u, (intCells (nz (outC s c)))[j]? = some u → w.cell? ⟨g, j, none⟩ = some u := by
    obtain ⟨a, c', e, _, _, hx⟩ := hr1.shape
    simp only [Value.slice.injEq] at e
    obtain ⟨rfl, _, _⟩ := e
    exact hx (by omega)
  have HSC : Hid (0 < t → ∃ g, as_ = some ⟨g, 0, none⟩ ∧ g < w.heap.size ∧ ∀ j u, (intCells (nz (M.stepsM s m)))[j]? = some u → w.cell? ⟨g, j, none⟩ = some u) := by
    obtain ⟨a, c', e, _, _, hx⟩ := hr2.shape
    simp only [Value.slice.injEq] at e
    obtain ⟨rfl, _, _⟩ := e
    exact hx
  have hcp : c ≤ capo ∧ capo ≤ maxLen ∧ t ≤ caps ∧ caps ≤ maxLen := by
    obtain ⟨a, c', e, i1, i2, hx⟩ := hr1.shape
    simp only [Value.slice.injEq] at e
    obtain ⟨_, _, rfl⟩ := e
    obtain ⟨a, c', e, i3, i4, hx⟩ := hr2.shape
    simp only [Value.slice.injEq] at e
    obtain ⟨_, _, rfl⟩ := e
    exact ⟨i1, i2, i3, i4⟩
  obtain ⟨hcp1, hcp2, hcp3, hcp4⟩ := hcp
  unfold maxLen at hcp2 hcp4
  have HCO : Hid (∀ k, k < c → w.cell? ⟨ga, k, none⟩ = some (.int .i64 (M.cellOf s (M.bz s (4 + 3 * M.bz s 2 + k)) : Nat))) := by
    intro k hk
    have e := hcella k _ (nzCell (by rw [outC_length]; exact hk))
    have e2 : (outC s c).getD k 0 = M.cellOf s (M.bz s (4 + 3 * M.bz s 2 + k)) := by simp [outC, hk]
    rw [e2] at e
    exact e
  clear h h0 h6 hr1 hr2 hn hm hc ht hcella
  have hq1 : q0 ≤ 28 := by omega
  have HCODE0 : Hid (codeTo s n m c t 0 0 = [75, n, q0, c, t]) := by
    rw [hq0]
    show codeTo s n m c t 0 0 = _
    unfold codeTo outC
    simp
  clear hq0
  go_enter Try.func58, Try.ntmps58
  go_wp2_with fail
  go_loopw [3, 4] (fun v i wr => ∃ k : Nat, k ≤ c ∧ i = .int .i64 k ∧ wr.ownsRow (w.heap.size + 1) 5 1 v (M.bytesOf (codeTo s n m c t k 0)).size (strCells (M.bytesOf (codeTo s n m c t k 0))) ∧
    Below (w.heap.size + 1) (w.alloc (.cells #[.int .i64 n, .int .i64 q0, .slice (some ⟨ga, 0, none⟩) c capo, .slice as_ t caps] 59)) wr) (fun _ i _ => c - (intOf i).toNat)
  case atStart =>
    refine ⟨0, by omega, rfl, ?_, ?_⟩
    · rw [HCODE0.out]
      have := lit_row (w := w.alloc (.cells #[.int .i64 n, .int .i64 q0, .slice (some ⟨ga, 0, none⟩) c capo, .slice as_ t caps] 59)) (base := w.heap.size + 1) [75, n, q0, c, t] 5 (unhide HAL0) rfl (by omega) (by simp)
      simpa using this
    · exact (Below.refl _ _).alloc (by simp) _
  case round =>
    obtain ⟨k, hk, rfl, hown, hbel⟩ := hrel
    have c0 : wr.cell? ⟨w.heap.size, 2, none⟩ = some (.slice (some ⟨ga, 0, none⟩) c capo) := (hbel.cell (p := ⟨w.heap.size, 2, none⟩) (by simp)).trans (by simp)
    have c1 : wr.cell? ⟨w.heap.size, 3, none⟩ = some (.slice as_ t caps) := (hbel.cell (p := ⟨w.heap.size, 3, none⟩) (by simp)).trans (by simp)
    have hsz := hbel.size
    simp only [World.size_alloc] at hsz
    have HO := hide hown
    have HB := hide hbel
    have HLK : Hid ((M.bytesOf (codeTo s n m c t k 0)).size = 5 + k) := by rw [M.bytesOf_size, codeTo_length _ _ _ _ _ _ _ (by omega)]; rfl
    by_cases hlt : k < c
    · have hcl : wr.cell? ⟨ga, k, none⟩ = some (.int .i64 (M.cellOf s (M.bz s (4 + 3 * M.bz s 2 + k)) : Nat)) := (hbel.cell (p := ⟨ga, k, none⟩) (by show ga < _; omega)).trans ((World.cell?_alloc_lt _ _ _ hga).trans (HCO.out k hlt))
      have hx := HALLO.out k hlt
      have HN := hide (codeTo_out s n m c t k)
      clear hown hbel
      generalize M.cellOf s (M.bz s (4 + 3 * M.bz s 2 + k)) = x at *
      go_wp2_with (at_builtin; (refine append_byte _ rfl (.tmp 29) (.tmp 36) rfl (w.heap.size + 1) u3 (M.bytesOf (codeTo s n m c t k 0)) x wr.heap.size hx rfl rfl (by simp) ((unhide HO).alloc _) (by rw [HLK.out]; omega) (by simp; omega) ?_); intro v' w1 hown1 hbel1 hsz1)
      have HR : Hid (w1.ownsRow (w.heap.size + 1) 5 1 v' (M.bytesOf (codeTo s n m c t (k + 1) 0)).size (strCells (M.bytesOf (codeTo s n m c t (k + 1) 0)))) := by rw [HN.out]; exact hown1
      have HB1 := hide (hbel1 _ (Below.alloc (unhide HB) hsz _))
      clear hown1 hbel1
      go_wp2
      go_roundw
      case rel => exact ⟨k + 1, by omega, by go_num, unhide HR, unhide HB1⟩
      case measure => simp [intOf]; omega
    · have hkc : c = k := by omega
      subst hkc
      clear hown hbel HLK hlt hk
      go_wp2_with fail
      go_loopw [3, 5] (fun v i wr => ∃ q : Nat, q ≤ t ∧ i = .int .i64 q ∧ wr.ownsRow (w.heap.size + 1) 5 1 v (M.bytesOf (codeTo s n m c t c q)).size (strCells (M.bytesOf (codeTo s n m c t c q))) ∧
        Below (w.heap.size + 1) (w.alloc (.cells #[.int .i64 n, .int .i64 q0, .slice (some ⟨ga, 0, none⟩) c capo, .slice as_ t caps] 59)) wr) (fun _ i _ => t - (intOf i).toNat)
      case atStart => exact ⟨0, by omega, rfl, unhide HO, unhide HB⟩
      case round =>
        clear HO HB c0 c1 hsz
        obtain ⟨q, hq, rfl, hown, hbel⟩ := hrel
        have c1 : wr.cell? ⟨w.heap.size, 3, none⟩ = some (.slice as_ t caps) := (hbel.cell (p := ⟨w.heap.size, 3, none⟩) (by simp)).trans (by simp)
        have hsz := hbel.size
        simp only [World.size_alloc] at hsz
        have HO := hide hown
        have HB := hide hbel
        by_cases hlt : q < t
        · have HLK : Hid ((M.bytesOf (codeTo s n m c t c q)).size = 5 + c + 4 * q) := by rw [M.bytesOf_size, codeTo_length _ _ _ _ _ _ _ (by rw [HLT.out]; omega)]; rfl
          obtain ⟨g, rfl, hg, hcell⟩ := unhide HSC (by omega)
          have hold : ∀ j, wr.cell? ⟨g, j, none⟩ = w.cell? ⟨g, j, none⟩ := fun j => (hbel.cell (p := ⟨g, j, none⟩) (by show g < _; omega)).trans (World.cell?_alloc_lt _ _ _ hg)
          obtain ⟨o0, o1, o2, o3⟩ := HORD.out q hlt
          have f0 := (hold (4 * q)).trans (hcell (4 * q) _ (nzCell (by rw [HLM.out]; omega)))
          have f1 := (hold (4 * q + 1)).trans (hcell (4 * q + 1) _ (nzCell (by rw [HLM.out]; omega)))
          have f2 := (hold (4 * q + 2)).trans (hcell (4 * q + 2) _ (nzCell (by rw [HLM.out]; omega)))
          have f3 := (hold (4 * q + 3)).trans (hcell (4 * q + 3) _ (nzCell (by rw [HLM.out]; omega)))
          rw [o0] at f0
          rw [o1] at f1
          rw [o2] at f2
          rw [o3] at f3
          rw [show 4 * q = q * 4 from by omega] at f0 f1 f2 f3
          have HN := hide (codeTo_step (s := s) (n := n) (m := m) (c := c) (t := t) (k := c) (q := q) (by rw [HLT.out]; omega))
          have g0 := HALLS.out _ (getD_mem (l := M.stepsT s m) (i := 4 * q) (by rw [HLT.out]; omega))
          have g1 := HALLS.out _ (getD_mem (l := M.stepsT s m) (i := 4 * q + 1) (by rw [HLT.out]; omega))
          have g2 := HALLS.out _ (getD_mem (l := M.stepsT s m) (i := 4 * q + 2) (by rw [HLT.out]; omega))
          have g3 := HALLS.out _ (getD_mem (l := M.stepsT s m) (i := 4 * q + 3) (by rw [HLT.out]; omega))
          rw [show 4 * q = q * 4 from by omega] at HN g0 g1 g2 g3
          clear hown hbel hold hcell o0 o1 o2 o3 HORD
          generalize (M.stepsT s m).getD (q * 4) 0 = x0 at *
          generalize (M.stepsT s m).getD (q * 4 + 1) 0 = x1 at *
          generalize (M.stepsT s m).getD (q * 4 + 2) 0 = x2 at *
          generalize (M.stepsT s m).getD (q * 4 + 3) 0 = x3 at *
          have HAL : Hid (M.AllB [x0, x1, x2, x3]) := by intro y hy; simp only [List.mem_cons, List.not_mem_nil, or_false] at hy; omega
          go_wp2_with (at_builtin; (refine append_bytes _ rfl (.tmp 50) (.tmp 66) rfl (w.heap.size + 1) u3 (M.bytesOf (codeTo s n m c t c q)) [x0, x1, x2, x3] (unhide HAL) (wr.heap.size + 1) 4 4 rfl rfl (by simp [Act.eval]) (by intro j u hj; rw [World.cell?_alloc_at _ _ _ _ (by simp)]; simpa using hj) (((unhide HO).alloc _).alloc _) (by rw [HLK.out]; omega) (by simp; omega) ?_); intro v' w1 hown1 hbel1 hsz1)
          have HR : Hid (w1.ownsRow (w.heap.size + 1) 5 1 v' (M.bytesOf (codeTo s n m c t c (q + 1))).size (strCells (M.bytesOf (codeTo s n m c t c (q + 1))))) := by rw [HN.out]; exact hown1
          have HB1 := hide (hbel1 _ (Below.alloc (Below.alloc (unhide HB) hsz _) (by simp; omega) _))
          clear hown1 hbel1
          go_wp2
          go_roundw
          case rel => exact ⟨q + 1, by omega, by go_num, unhide HR, unhide HB1⟩
          case measure => simp [intOf]; omega
        · have hqt : t = q := by omega
          subst hqt
          have hr := row_text _ _ _ _ hown
          clear hown hbel
          go_wp2
          go_ret
          exact ⟨ret_string HEND.out, below_box (unhide HB)⟩
end Go.Proofs.Ytjfmiomopfjecaa

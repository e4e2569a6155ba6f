/- compile.needed. -/
import Derived.Test.YtjfmiomopfjecaaCompNeed
namespace Go.Proofs.Ytjfmiomopfjecaa
open Go.RowKit

theorem has_at (v : Value) (l : List Nat) (k : Int) (x : Nat) (w : World) (h : HoldsRow w v l.length (intCells (nz l))) (hk : k = x) :
    Calls Try.prog 84 #[v, .int .i64 k] w fun e w' => e = .returned (.bool (decide (x ∈ l))) ∧ w = w' := by
  subst hk
  exact has_any v l x w h
/-- 'l = append(l, r...)', l nil or the call's own, r a row that is read -/
theorem append_row {ops : Array Oper} {rest : List Oper} {o : Oper} {a : Act} {Q : Exit → Act → World → Prop} (W : World) (hgd : o.guard = none) (s x : Operand)
    (ho : o.op = .call { callee := .builtin .append, args := #[s, x], argTypes := #[52, 52] })
    (base : Nat) (v : Value) (l r : List Int) (g n cap : Nat) (hnr : r.length = n) (hs : a.eval s = v) (hx : a.eval x = .slice (some ⟨g, 0, none⟩) n cap)
    (hc : ∀ j u, (intCells r)[j]? = some u → W.cell? ⟨g, j, none⟩ = some u)
    (hown : W.ownsRow base 3 1 v l.length (intCells l)) (hn : l.length + n ≤ 1000000) (hbase : base ≤ W.heap.size)
    (h : ∀ v' w', w'.ownsRow base 3 1 v' (l ++ r).length (intCells (l ++ r)) → (∀ w0, Below base w0 W → Below base w0 w') → W.heap.size ≤ w'.heap.size → wpList Try.prog ops Q rest (a.put o.dst v') w') :
    wpList Try.prog ops Q (o :: rest) a W := by
  obtain ⟨i0, hi, hz0, hz1, hz2⟩ := info_parts infoI
  refine wpList_append_own W hgd s x 52 ho base 3 i0 (.int .i64 0) 1 8 Try.underlying52 hi hz0 hz1 hz2 rfl (by decide) v l.length (intCells l) hs hown ⟨g, 0, none⟩ n cap (intCells r) hx (by rw [intCells_length]; omega) ?_ ?_ (by unfold maxLen; omega) (by omega) hbase ?_
  · intro j u hj
    rw [add_at]
    exact hc j u hj
  · intro u hu
    simp only [intCells, List.mem_map] at hu
    obtain ⟨y, _, rfl⟩ := hu
    rfl
  · intro v' w' hown' hgrow _
    refine h v' w' ?_ (fun w0 hb0 => hb0.grown hgrow hbase (fun k hk => (hown.lt k hk).1)) hgrow.size
    have e : intCells (l ++ r) = intCells l ++ intCells r := by simp [intCells]
    rw [List.length_append, e, hnr]
    exact hown'
theorem nz_outL (s : ByteArray) (m c : Nat) (hm : M.bz s 2 = m) (hc : M.bz s 3 = c) : nz (M.outL s) = bvals s (4 + 3 * m) c := by
  subst hm hc
  unfold nz M.outL bvals
  rw [List.map_map]
  rfl
theorem ops_of_need {s : ByteArray} (h : M.isImage s = true) {k : Nat} (hk : k < M.bz s 2) (hf : M.bz s 1 + k ∉ M.fixA s) : 0 < (M.opsAt s k).length := by
  cases e : M.opsAt s k with
  | nil => exact absurd ((M.fix_iff h hk).2 (by rw [e]; intro x hx; cases hx)) hf
  | cons x l => simp

set_option maxHeartbeats 1600000 in
theorem needed_at (s : ByteArray) (n m c : Nat) (a1 a2 : Option Addr) (cap1 cap2 : Nat) (vk : Value) (w : World) (h : M.isImage s = true) (hn : M.bz s 1 = n) (hm : M.bz s 2 = m) (hc : M.bz s 3 = c)
    (hr1 : HoldsRow w (.slice a1 m cap1) m (intCells (bvals s 4 (3 * m)))) (hr2 : HoldsRow w (.slice a2 c cap2) c (intCells (bvals s (4 + 3 * m) c))) (hk : HoldsRow w vk (M.fixA s).length (intCells (nz (M.fixA s)))) :
    Calls Try.prog 82 #[.agg #[.int .i64 n, .slice a1 m cap1, .slice a2 c cap2], vk] w fun e w' => ∃ v, e = .returned v ∧
      HoldsRow w' v (M.needL s m).length (intCells (nz (M.needL s m))) ∧ Below w.heap.size w w' := by
  obtain ⟨h0, h1, h2, h3, h4, h5, h6⟩ := M.headOk_eq (image_head h)
  rw [hn] at h1 h2
  rw [hm] at h3
  rw [hc] at h4 h5
  have HOP : Hid (∀ k, k < m → M.okOp (M.bz s (4 + 3 * k)) (M.bz s (5 + 3 * k)) (M.bz s (6 + 3 * k)) (n + k) = true) := by rw [← hm, ← hn]; exact fun k hk => image_nodes h hk
  have HNE : Hid (∀ k, k < m → n + k ∉ M.fixA s → 0 < (M.opsAt s k).length) := by rw [← hm, ← hn]; exact fun k hk => ops_of_need h hk
  have HSTEP : Hid (∀ q, q < m → M.needL s (m - q) = if n + q ∈ M.needL s (m - (q + 1)) ∧ n + q ∉ M.fixA s then M.needL s (m - (q + 1)) ++ M.opsAt s q else M.needL s (m - (q + 1))) := by
    intro q hq
    rw [show m - q = (m - (q + 1)) + 1 from by omega, M.needL, hm, hn, show m - 1 - (m - (q + 1)) = q from by omega]
  have HLEN : Hid (∀ j, (M.needL s j).length ≤ c + 2 * j) := by rw [← hc]; exact fun j => M.needL_length s j
  have HOUT : Hid (nz (M.needL s 0) = bvals s (4 + 3 * m) c) := nz_outL s m c hm hc
  have HB13 : Hid (0 < m → ∃ g, a1 = some ⟨g, 0, none⟩ ∧ g < w.heap.size ∧ ∀ j u, (intCells (bvals s 4 (3 * m)))[j]? = some u → w.cell? ⟨g, j, none⟩ = some u) := by
    obtain ⟨a, c, e, _, _, hx⟩ := hr1.shape
    simp only [Value.slice.injEq] at e
    obtain ⟨rfl, _, _⟩ := e
    exact hx
  have hcap : cap1 ≤ maxLen ∧ m ≤ cap1 := by
    obtain ⟨a, c, e, h1, h2, hx⟩ := hr1.shape
    simp only [Value.slice.injEq] at e
    obtain ⟨_, _, rfl⟩ := e
    exact ⟨h2, h1⟩
  obtain ⟨hcap1, hcap2⟩ := hcap
  unfold maxLen at hcap1
  obtain ⟨g2, rfl, hg2, hcell2⟩ : ∃ g, a2 = some ⟨g, 0, none⟩ ∧ g < w.heap.size ∧ ∀ j u, (intCells (bvals s (4 + 3 * m) c))[j]? = some u → w.cell? ⟨g, j, none⟩ = some u := by
    obtain ⟨a, c', e, _, _, hx⟩ := hr2.shape
    simp only [Value.slice.injEq] at e
    obtain ⟨rfl, _, _⟩ := e
    exact hx (by omega)
  have HC2 : Hid (∀ o : Obj, ∀ j u, (intCells (bvals s (4 + 3 * m) c))[j]? = some u → (w.alloc o).cell? ⟨g2, j, none⟩ = some u) := fun o j u hj => (World.cell?_alloc_lt _ _ _ hg2).trans (hcell2 j u hj)
  have HK := hide hk
  have HBL := hide (bvals_length s (4 + 3 * m) c)
  have hcap2 : c ≤ cap2 ∧ cap2 ≤ maxLen := by
    obtain ⟨a, c', e, h1, h2, hx⟩ := hr2.shape
    simp only [Value.slice.injEq] at e
    obtain ⟨_, _, rfl⟩ := e
    exact ⟨h1, h2⟩
  obtain ⟨hcap3, hcap4⟩ := hcap2
  unfold maxLen at hcap4
  clear h h0 h6 hr1 hr2 hn hm hc hcell2 hk
  go_enter Try.func82, Try.ntmps82
  go_wp2_with (at_builtin; (refine append_row _ rfl (.tmp 9) (.tmp 11) rfl (w.heap.size + 1) (.slice none 0 0) [] (bvals s (4 + 3 * m) c) g2 c cap2 (by rw [HBL.out]) rfl rfl (unhide HC2 _) (World.ownsRow_nil _ _ _ _) (by simp; omega) (by simp) ?_); intro v0 w0 hown0 hbel0 hsz0; have b1 : w0.cell? ⟨w.heap.size, 1, none⟩ = some (.slice a1 m cap1) := ((hbel0 (w.alloc (.cells #[.int .i64 n, .slice a1 m cap1, .slice (some ⟨g2, 0, none⟩) c cap2] 66)) (Below.refl _ _)).cell (p := ⟨w.heap.size, 1, none⟩) (by simp)).trans (by simp))
  have HR0 : Hid (w0.ownsRow (w.heap.size + 1) 3 1 v0 (nz (M.needL s 0)).length (intCells (nz (M.needL s 0)))) := by rw [HOUT.out]; exact hown0
  have HB0 := hide (hbel0 (w.alloc (.cells #[.int .i64 n, .slice a1 m cap1, .slice (some ⟨g2, 0, none⟩) c cap2] 66)) (Below.refl _ _))
  clear hown0 hbel0
  go_loopw [5, 6] (fun v i wr => ∃ q : Nat, q ≤ m ∧ i = .int .i64 ((q : Int) - 1) ∧ wr.ownsRow (w.heap.size + 1) 3 1 v (nz (M.needL s (m - q))).length (intCells (nz (M.needL s (m - q)))) ∧ Below (w.heap.size + 1) (w.alloc (.cells #[.int .i64 n, .slice a1 m cap1, .slice (some ⟨g2, 0, none⟩) c cap2] 66)) wr) (fun _ i _ => (intOf i + 1).toNat)
  case atStart => exact ⟨m, Nat.le_refl _, rfl, by rw [Nat.sub_self]; exact unhide HR0, unhide HB0⟩
  case round =>
    clear HR0 HB0 b1
    obtain ⟨q1, hq1, hi, hown, hbel⟩ := hrel
    have hb0 : wr.cell? ⟨w.heap.size, 0, none⟩ = some (.int .i64 n) := (hbel.cell (p := ⟨w.heap.size, 0, none⟩) (by simp)).trans (by simp)
    have hb1 : wr.cell? ⟨w.heap.size, 1, none⟩ = some (.slice a1 m cap1) := (hbel.cell (p := ⟨w.heap.size, 1, none⟩) (by simp)).trans (by simp)
    have hsz := hbel.size
    simp only [World.size_alloc] at hsz
    have HO := hide hown
    have HB := hide hbel
    have HRow : Hid (HoldsRow wr u5 (M.needL s (m - q1)).length (intCells (nz (M.needL s (m - q1))))) := by
      have := holdsRow_own hown
      rw [nz_length] at this
      exact this
    have HKr := hide ((unhide HK).mono (below_box hbel))
    cases q1 with
    | zero =>
      subst hi
      clear hbel hown
      go_wp2
      go_ret
      exact ⟨_, rfl, by have := unhide HRow; rw [Nat.sub_zero] at this; exact this, below_box (unhide HB)⟩
    | succ q =>
      have hlt : q < m := by omega
      have ei : ((q + 1 : Nat) : Int) - 1 = (q : Int) := by omega
      rw [ei] at hi
      subst hi
      obtain ⟨g, rfl, hg, hcell⟩ := unhide HB13 (by omega)
      have hold : ∀ j, wr.cell? ⟨g, j, none⟩ = w.cell? ⟨g, j, none⟩ := fun j => (hbel.cell (p := ⟨g, j, none⟩) (by show g < _; omega)).trans (World.cell?_alloc_lt _ _ _ hg)
      have e0 := (hold (q * 3)).trans (hcell (q * 3) _ (bvals_at s 4 (3 * m) (q * 3) (by omega)))
      have e1 := (hold (q * 3 + 1)).trans (hcell (q * 3 + 1) _ (bvals_at s 4 (3 * m) (q * 3 + 1) (by omega)))
      have e2 := (hold (q * 3 + 2)).trans (hcell (q * 3 + 2) _ (bvals_at s 4 (3 * m) (q * 3 + 2) (by omega)))
      rw [show 4 + q * 3 = 4 + 3 * q from by omega] at e0
      rw [show 4 + (q * 3 + 1) = 5 + 3 * q from by omega] at e1
      rw [show 4 + (q * 3 + 2) = 6 + 3 * q from by omega] at e2
      have hop := M.okOp_seven' (HOP.out q hlt)
      have HS := hide (HSTEP.out q hlt)
      have HPOS := hide (HNE.out q hlt)
      have HLQ := hide (HLEN.out (m - (q + 1)))
      have HOL := M.opsL_length (M.bz s (4 + 3 * q)) (M.bz s (5 + 3 * q)) (M.bz s (6 + 3 * q))
      have HOA : Hid (M.opsAt s q = M.opsL (M.bz s (4 + 3 * q)) (M.bz s (5 + 3 * q)) (M.bz s (6 + 3 * q))) := rfl
      clear hold hcell hbel hown HOP HSTEP HNE ei
      generalize M.needL s (m - (q + 1)) = N at *
      generalize M.fixA s = K at *
      go_wp2_with fail
      refine (has_at _ N _ (n + q) _ (unhide HRow) (by omega)).mono ?_
      rintro e w' ⟨rfl, rfl⟩
      by_cases hin : n + q ∈ N
      · rw [decide_eq_true hin]
        go_wp2_with fail
        refine (has_at _ K _ (n + q) _ (unhide HKr) (by omega)).mono ?_
        rintro e w' ⟨rfl, rfl⟩
        by_cases hfx : n + q ∈ K
        · rw [decide_eq_true hfx]
          have HN : Hid (M.needL s (m - q) = N) := by rw [HS.out, if_neg (fun hh => hh.2 hfx)]; rfl
          clear hin hfx
          go_wp2
          go_roundw
          case rel => exact ⟨q, by omega, by go_num, by rw [HN.out]; exact unhide HO, unhide HB⟩
          case measure => simp [intOf]
        · rw [decide_eq_false hfx]
          have HN : Hid (M.needL s (m - q) = N ++ M.opsAt s q) := by rw [HS.out, if_pos ⟨hin, hfx⟩]; rfl
          have hpos := HPOS.out hfx
          rw [HOA.out] at HN hpos
          clear hin hfx HOA
          generalize M.bz s (4 + 3 * q) = x at *
          generalize M.bz s (5 + 3 * q) = y at *
          generalize M.bz s (6 + 3 * q) = z at *
          go_wp2_with fail
          refine (operands_any x y z _ hop).mono ?_
          rintro e w1 ⟨v1, rfl, hr1, hbF⟩
          have hsz1 := hbF.size
          have HO1 := hide (ownsRow_below (unhide HO) hbF)
          have HB1 := hide ((unhide HB).trans (hbF.mono hsz))
          clear hbF e0 e1 e2 hb0 hb1
          obtain ⟨ao, cap, rfl, hca, hcb, hxx⟩ := hr1.shape
          obtain ⟨gg, rfl, hgg, hccc⟩ := hxx hpos
          have HCC := hide hccc
          unfold maxLen at hcb
          clear hr1 hxx hccc
          generalize M.opsL x y z = L at *
          go_wp2_with (at_builtin; (refine append_row _ rfl (.tmp 40) (.tmp 41) rfl (w.heap.size + 1) u5 (nz N) (nz L) gg L.length cap (nz_length L) rfl rfl (unhide HCC) (unhide HO1) (by rw [nz_length]; have := HLQ.out; omega) (by omega) ?_); intro v' w3 hown1 hbel1 hsz3)
          have HR : Hid (w3.ownsRow (w.heap.size + 1) 3 1 v' (nz (M.needL s (m - q))).length (intCells (nz (M.needL s (m - q))))) := by rw [HN.out, nz_append]; exact hown1
          have HB3 := hide (hbel1 _ (unhide HB1))
          clear hown1 hbel1
          go_wp2
          go_roundw
          case rel => exact ⟨q, by omega, by go_num, unhide HR, unhide HB3⟩
          case measure => simp [intOf]
      · rw [decide_eq_false hin]
        have HN : Hid (M.needL s (m - q) = N) := by rw [HS.out, if_neg (fun hh => hin hh.1)]; rfl
        clear hin
        go_wp2
        go_roundw
        case rel => exact ⟨q, by omega, by go_num, by rw [HN.out]; exact unhide HO, unhide HB⟩
        case measure => simp [intOf]
end Go.Proofs.Ytjfmiomopfjecaa

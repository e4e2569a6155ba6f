/- compile.moved, compile.fixed. -/
import Derived.Test.YtjfmiomopfjecaaCompLeaf
import Derived.Test.YtjfmiomopfjecaaNetEval
namespace Go.Proofs.Ytjfmiomopfjecaa
open Go.RowKit

theorem at_nat (v : Value) (l : List Nat) (i : Nat) (w : World) (h : HoldsRow w v l.length (intCells (nz l))) (hi : i ≤ 65535) :
    Calls Try.prog 86 #[v, .int .i64 i] w fun e w' => e = .returned (.int .i64 ((l.getD i 0 : Nat) : Int)) ∧ w = w' := by
  have := wordAt_any v (nz l) i w (by rw [nz_length]; exact h) hi
  rw [nz_getD] at this
  exact this
theorem ret_node {a b c a' b' c' : Int} (h1 : a = a') (h2 : b = b') (h3 : c = c') : Ending.returned (.agg #[.int .i64 a, .int .i64 b, .int .i64 c]) = .returned (.agg #[.int .i64 a', .int .i64 b', .int .i64 c']) := by rw [h1, h2, h3]

theorem moved_any (op a b A B : Nat) (v : Value) (cs : List Nat) (w : World) (h : HoldsRow w v cs.length (intCells (nz cs))) (h7 : op ≤ 7) (ha : a < 256) (hb : b < 256)
    (hA : A = if 0 < (M.opsL op a b).length then cs.getD a 0 else a) (hB : B = if 1 < (M.opsL op a b).length then cs.getD b 0 else b) :
    Calls Try.prog 85 #[.agg #[.int .i64 op, .int .i64 a, .int .i64 b], v] w fun e w' => e = .returned (.agg #[.int .i64 op, .int .i64 A, .int .i64 B]) ∧ Below w.heap.size w w' := by
  have HA := hide hA
  have HB := hide hB
  have HH := hide h
  have hL := M.opsL_length op a b
  clear hA hB h
  go_enter Try.func85, Try.ntmps85
  go_wp2_with fail
  refine (operands_any op a b _ h7).mono ?_
  rintro e w1 ⟨v1, rfl, hr, hb1⟩
  obtain ⟨ao, cap, rfl, hc1, hc2, _⟩ := hr.shape
  unfold maxLen at hc2
  have z0 : w1.cell? ⟨w.heap.size, 0, none⟩ = some (.int .i64 op) := (hb1.cell (p := ⟨w.heap.size, 0, none⟩) (by simp only [World.size_alloc]; omega)).trans (by go_simp)
  have z1 : w1.cell? ⟨w.heap.size, 1, none⟩ = some (.int .i64 a) := (hb1.cell (p := ⟨w.heap.size, 1, none⟩) (by simp only [World.size_alloc]; omega)).trans (by go_simp)
  have z2 : w1.cell? ⟨w.heap.size, 2, none⟩ = some (.int .i64 b) := (hb1.cell (p := ⟨w.heap.size, 2, none⟩) (by simp only [World.size_alloc]; omega)).trans (by go_simp)
  have r0 : w1.cell? ⟨w.heap.size + 1, 0, none⟩ = some (.int .i64 0) := (hb1.cell (p := ⟨w.heap.size + 1, 0, none⟩) (by simp only [World.size_alloc]; omega)).trans (by go_simp)
  have r1 : w1.cell? ⟨w.heap.size + 1, 1, none⟩ = some (.int .i64 0) := (hb1.cell (p := ⟨w.heap.size + 1, 1, none⟩) (by simp only [World.size_alloc]; omega)).trans (by go_simp)
  have r2 : w1.cell? ⟨w.heap.size + 1, 2, none⟩ = some (.int .i64 0) := (hb1.cell (p := ⟨w.heap.size + 1, 2, none⟩) (by simp only [World.size_alloc]; omega)).trans (by go_simp)
  have fz : ∀ o, w1.frozen? ⟨w.heap.size, o, none⟩ = false := fun o => (hb1.frozen (p := ⟨w.heap.size, o, none⟩) (by simp only [World.size_alloc]; omega)).trans (by go_simp)
  have fr : ∀ o, w1.frozen? ⟨w.heap.size + 1, o, none⟩ = false := fun o => (hb1.frozen (p := ⟨w.heap.size + 1, o, none⟩) (by simp only [World.size_alloc]; omega)).trans (by go_simp)
  have HB1 : Hid (Below w.heap.size w w1) := (((Below.refl w.heap.size w).alloc (Nat.le_refl _) _).alloc (by simp) _).trans (hb1.mono (by simp; omega))
  have HR1 := hide ((unhide HH).mono (unhide HB1))
  clear hb1 hr
  generalize (M.opsL op a b).length = L at *
  have hl3 : L = 0 ∨ L = 1 ∨ L = 2 := by omega
  rcases hl3 with rfl | rfl | rfl
  · have eA : Hid (A = a) := HA.out
    have eB : Hid (B = b) := HB.out
    go_wp2
    refine bodyPost_ret (v := .agg #[.int .i64 op, .int .i64 a, .int .i64 b]) (by simp [results, Try.results85, go_sem, r0, r1, r2]) rfl ⟨ret_node rfl (by rw [eA.out]) (by rw [eB.out]), ?_⟩
    exact (((unhide HB1).setCell (by simp) _).setCell (by simp) _).setCell (by simp) _
  · have eA : Hid (A = cs.getD a 0) := HA.out
    have eB : Hid (B = b) := HB.out
    go_wp2_with fail
    refine (at_nat v cs a _ (unhide HR1) (by omega)).mono ?_
    rintro e w' ⟨rfl, rfl⟩
    go_wp2
    refine bodyPost_ret (v := .agg #[.int .i64 op, .int .i64 (cs.getD a 0 : Nat), .int .i64 b]) (by simp [results, Try.results85, go_sem, r0, r1, r2]) rfl ⟨ret_node rfl (by rw [eA.out]) (by rw [eB.out]), ?_⟩
    exact ((((unhide HB1).setCell (by simp) _).setCell (by simp) _).setCell (by simp) _).setCell (by simp) _
  · have eA : Hid (A = cs.getD a 0) := HA.out
    have eB : Hid (B = cs.getD b 0) := HB.out
    go_wp2_with fail
    refine (at_nat v cs a _ (unhide HR1) (by omega)).mono ?_
    rintro e w' ⟨rfl, rfl⟩
    go_wp2_with fail
    refine (at_nat v cs b _ ((unhide HH).mono ((unhide HB1).setCell (by simp) _)) (by omega)).mono ?_
    rintro e w' ⟨rfl, rfl⟩
    go_wp2
    refine bodyPost_ret (v := .agg #[.int .i64 op, .int .i64 (cs.getD a 0 : Nat), .int .i64 (cs.getD b 0 : Nat)]) (by simp [results, Try.results85, go_sem, r0, r1, r2]) rfl ⟨ret_node rfl (by rw [eA.out]) (by rw [eB.out]), ?_⟩
    exact (((((unhide HB1).setCell (by simp) _).setCell (by simp) _).setCell (by simp) _).setCell (by simp) _).setCell (by simp) _

set_option maxHeartbeats 800000 in
theorem fixed_at (s : ByteArray) (n m c : Nat) (a1 a2 : Option Addr) (cap1 cap2 : Nat) (w : World) (h : M.isImage s = true) (hn : M.bz s 1 = n) (hm : M.bz s 2 = m)
    (hr1 : HoldsRow w (.slice a1 m cap1) m (intCells (bvals s 4 (3 * m)))) :
    Calls Try.prog 81 #[.agg #[.int .i64 n, .slice a1 m cap1, .slice a2 c cap2]] w fun e w' => ∃ v, e = .returned v ∧
      HoldsRow w' v (M.fixL s m).length (intCells (nz (M.fixL s m))) ∧ Below w.heap.size w w' := by
  obtain ⟨h0, h1, h2, h3, h4, h5, h6⟩ := M.headOk_eq (image_head h)
  rw [hn] at h1 h2
  rw [hm] at h3
  have HOP : Hid (∀ k, k < m → M.okOp (M.bz s (4 + 3 * k)) (M.bz s (5 + 3 * k)) (M.bz s (6 + 3 * k)) (n + k) = true) := by rw [← hm, ← hn]; exact fun k hk => image_nodes h hk
  have HN := hide hn
  have HB13 : Hid (0 < m → ∃ g, a1 = some ⟨g, 0, none⟩ ∧ g < w.heap.size ∧ ∀ j u, (intCells (bvals s 4 (3 * m)))[j]? = some u → w.cell? ⟨g, j, none⟩ = some u) := by
    obtain ⟨a, c, e, _, _, hx⟩ := hr1.shape
    simp only [Value.slice.injEq] at e
    obtain ⟨rfl, _, _⟩ := e
    exact hx
  have hcap : cap1 ≤ maxLen ∧ m ≤ cap1 := by
    obtain ⟨a, c, e, h1, h2, hx⟩ := hr1.shape
    simp only [Value.slice.injEq] at e
    obtain ⟨_, _, rfl⟩ := e
    exact ⟨h2, h1⟩
  obtain ⟨hcap1, hcap2⟩ := hcap
  unfold maxLen at hcap1
  clear h h0 h4 h5 h6 hr1 hn hm
  go_enter Try.func81, Try.ntmps81
  go_wp2_with fail
  go_loopw [3, 4] (fun v i wr => ∃ k : Nat, k ≤ m ∧ i = .int .i64 k ∧ wr.ownsRow (w.heap.size + 1) 3 1 v (nz (M.fixL s k)).length (intCells (nz (M.fixL s k))) ∧ Below (w.heap.size + 1) (w.alloc (.cells #[.int .i64 n, .slice a1 m cap1, .slice a2 c cap2] 66)) wr) (fun _ i _ => m - (intOf i).toNat)
  case atStart => exact ⟨0, by omega, rfl, World.ownsRow_nil _ _ _ _, by have := Below.refl (w.heap.size + 1) (w.alloc (.cells #[.int .i64 n, .slice a1 m cap1, .slice a2 c cap2] 66)); exact this⟩
  case round =>
    obtain ⟨k, hk, rfl, hown, hbel⟩ := hrel
    have hb0 : wr.cell? ⟨w.heap.size, 0, none⟩ = some (.int .i64 n) := (hbel.cell (p := ⟨w.heap.size, 0, none⟩) (by simp)).trans (by simp)
    have hb1 : wr.cell? ⟨w.heap.size, 1, none⟩ = some (.slice a1 m cap1) := (hbel.cell (p := ⟨w.heap.size, 1, none⟩) (by simp)).trans (by simp)
    have hsz := hbel.size
    simp only [World.size_alloc] at hsz
    have HO := hide hown
    have HB := hide hbel
    have HLen := hide (M.fixL_length s k)
    have HRow : Hid (HoldsRow wr u3 (M.fixL s k).length (intCells (nz (M.fixL s k)))) := by
      have := holdsRow_own hown
      rw [nz_length] at this
      exact this
    by_cases hlt : k < m
    · obtain ⟨g, rfl, hg, hcell⟩ := unhide HB13 (by omega)
      have hold : ∀ j, wr.cell? ⟨g, j, none⟩ = w.cell? ⟨g, j, none⟩ := fun j => (hbel.cell (p := ⟨g, j, none⟩) (by show g < _; omega)).trans (World.cell?_alloc_lt _ _ _ hg)
      have e0 := (hold (k * 3)).trans (hcell (k * 3) _ (bvals_at s 4 (3 * m) (k * 3) (by omega)))
      have e1 := (hold (k * 3 + 1)).trans (hcell (k * 3 + 1) _ (bvals_at s 4 (3 * m) (k * 3 + 1) (by omega)))
      have e2 := (hold (k * 3 + 2)).trans (hcell (k * 3 + 2) _ (bvals_at s 4 (3 * m) (k * 3 + 2) (by omega)))
      rw [show 4 + k * 3 = 4 + 3 * k from by omega] at e0
      rw [show 4 + (k * 3 + 1) = 5 + 3 * k from by omega] at e1
      rw [show 4 + (k * 3 + 2) = 6 + 3 * k from by omega] at e2
      have hop := M.okOp_seven' (HOP.out k hlt)
      have HS : Hid (M.fixL s (k + 1) = if ∀ x ∈ M.opsL (M.bz s (4 + 3 * k)) (M.bz s (5 + 3 * k)) (M.bz s (6 + 3 * k)), x ∈ M.fixL s k then M.fixL s k ++ [n + k] else M.fixL s k) := by rw [← HN.out]; rfl
      clear hold hcell hbel hown HOP
      generalize M.bz s (4 + 3 * k) = x at *
      generalize M.bz s (5 + 3 * k) = y at *
      generalize M.bz s (6 + 3 * k) = z at *
      go_wp2_with fail
      refine (operands_any x y z _ hop).mono ?_
      rintro e w1 ⟨v1, rfl, hr1, hbF⟩
      have hsz1 := hbF.size
      have c0 : w1.cell? ⟨w.heap.size, 0, none⟩ = some (.int .i64 n) := (hbF.cell (p := ⟨w.heap.size, 0, none⟩) (by show w.heap.size < _; omega)).trans hb0
      have c1 : w1.cell? ⟨w.heap.size, 1, none⟩ = some (.slice (some ⟨g, 0, none⟩) m cap1) := (hbF.cell (p := ⟨w.heap.size, 1, none⟩) (by show w.heap.size < _; omega)).trans hb1
      have HO1 := hide (ownsRow_below (unhide HO) hbF)
      have HB1 := hide ((unhide HB).trans (hbF.mono hsz))
      have HRow1 := hide ((unhide HRow).mono hbF)
      have HR1 := hide hr1
      clear hbF e0 e1 e2 hb0 hb1 hr1
      generalize M.opsL x y z = L at *
      go_wp2_with fail
      refine (hasAll_any _ _ _ _ _ (unhide HRow1) (unhide HR1)).mono ?_
      rintro e w' ⟨rfl, rfl⟩
      by_cases hall : ∀ x ∈ L, x ∈ M.fixL s k
      · rw [decide_eq_true hall]
        have HS2 : Hid (nz (M.fixL s (k + 1)) = nz (M.fixL s k) ++ [((n + k : Nat) : Int)]) := by rw [HS.out, if_pos hall, nz_append]; rfl
        clear hall
        go_wp2_with (at_builtin; (refine append_int _ rfl (.tmp 22) (.tmp 27) rfl (w.heap.size + 1) u3 (nz (M.fixL s k)) ((n : Int) + (k : Int)) rfl rfl (unhide HO1) (by rw [nz_length]; have := HLen.out; omega) (by omega) ?_); intro v' w3 hown1 hbel1 hsz3)
        have HR : Hid (w3.ownsRow (w.heap.size + 1) 3 1 v' (nz (M.fixL s (k + 1))).length (intCells (nz (M.fixL s (k + 1))))) := by rw [HS2.out, show ((n + k : Nat) : Int) = (n : Int) + (k : Int) from by omega]; exact hown1
        have HB3 := hide (hbel1 _ (unhide HB1))
        clear hown1 hbel1
        go_wp2
        go_roundw
        case rel => exact ⟨k + 1, by omega, by go_num, unhide HR, unhide HB3⟩
        case measure => simp [intOf]; omega
      · rw [decide_eq_false hall]
        have HR : Hid (w1.ownsRow (w.heap.size + 1) 3 1 u3 (nz (M.fixL s (k + 1))).length (intCells (nz (M.fixL s (k + 1))))) := by rw [HS.out, if_neg hall]; exact unhide HO1
        clear hall
        go_wp2
        go_roundw
        case rel => exact ⟨k + 1, by omega, by go_num, unhide HR, unhide HB1⟩
        case measure => simp [intOf]; omega
    · have hkm : k = m := by omega
      subst hkm
      clear hbel hown
      go_wp2
      go_ret
      exact ⟨_, rfl, unhide HRow, below_box (unhide HB)⟩
end Go.Proofs.Ytjfmiomopfjecaa

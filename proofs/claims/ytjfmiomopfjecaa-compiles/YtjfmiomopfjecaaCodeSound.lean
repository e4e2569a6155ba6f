/- The program's test of a code's outputs and instructions: sound. -/
import Derived.Test.YtjfmiomopfjecaaCodeRead
import Derived.Test.YtjfmiomopfjecaaNetSound
namespace Go.Proofs.Ytjfmiomopfjecaa
open Go.RowKit

def csoundOk (s : ByteArray) : Bool := M.cOuts s (M.bz s 3) && M.cSteps s (M.bz s 4)

set_option maxHeartbeats 3200000 in
theorem csound_any (s : ByteArray) (v1 v2 : Value) (w : World) (h : M.cHead s = true)
    (hr1 : HoldsRow w v1 (M.bz s 3) (intCells (bvals s 5 (M.bz s 3)))) (hr2 : HoldsRow w v2 (M.bz s 4) (scells s (5 + M.bz s 3) (M.bz s 4))) :
    Calls Try.prog 74 #[.agg #[.int .i64 (M.bz s 1), .int .i64 (M.bz s 2), v1, v2]] w fun e w' => e = .returned (.bool (csoundOk s)) ∧ Below w.heap.size w w' := by
  obtain ⟨h0, h1, h2, h3, h4, h5, h6, h7, h8⟩ := M.cHead_eq h
  have HI : Hid (∀ b, csoundOk s = b → Ending.returned (.bool b) = .returned (.bool (csoundOk s))) := fun b e => by rw [e]
  have HF1 : Hid (∀ k, k < M.bz s 3 → ¬ M.bz s (5 + k) < M.bz s 2 → csoundOk s = false) := fun k hk e => M.code_outs hk e
  have HF2 : Hid (∀ k, k < M.bz s 4 → (M.okOp (M.bz s (5 + M.bz s 3 + 4 * k)) (M.bz s (5 + M.bz s 3 + 4 * k + 2)) (M.bz s (5 + M.bz s 3 + 4 * k + 3)) (M.bz s 2) && decide (M.bz s (5 + M.bz s 3 + 4 * k + 1) < M.bz s 2)) = false → csoundOk s = false) := fun k hk e => M.code_steps hk e
  have HN : Hid (∀ k, M.cOuts s k = true → M.bz s (5 + k) < M.bz s 2 → M.cOuts s (k + 1) = true) := fun k a b => M.cOuts_next a b
  have HO : Hid (∀ k, M.cSteps s k = true → (M.okOp (M.bz s (5 + M.bz s 3 + 4 * k)) (M.bz s (5 + M.bz s 3 + 4 * k + 2)) (M.bz s (5 + M.bz s 3 + 4 * k + 3)) (M.bz s 2) && decide (M.bz s (5 + M.bz s 3 + 4 * k + 1) < M.bz s 2)) = true → M.cSteps s (k + 1) = true) := fun k a b => M.cSteps_next a b
  have HT : Hid (M.cOuts s (M.bz s 3) = true → M.cSteps s (M.bz s 4) = true → csoundOk s = true) := fun a b => by unfold csoundOk; rw [a, b]; rfl
  obtain ⟨a1, cap1, rfl, c11, c12, c13⟩ := hr1.shape
  obtain ⟨a2, cap2, rfl, c21, c22, c23⟩ := hr2.shape
  obtain ⟨g1, rfl, hg1, hcell1⟩ := c13 (by omega)
  have HC1 := hide hcell1
  have HB23 := hide c23
  have hn : M.bz s 1 ≤ 4 := h2
  clear h h0 h8 hr1 hr2 c13 c23 hcell1
  generalize M.bz s 1 = n at *
  generalize M.bz s 2 = c at *
  generalize M.bz s 3 = o at *
  generalize M.bz s 4 = m at *
  unfold maxLen at c12 c22
  go_enter Try.func74, Try.ntmps74
  go_wp2_with fail
  go_loopw [3] (fun i wr => ∃ k : Nat, k ≤ o ∧ i = .int .i64 k ∧ Hid (M.cOuts s k = true) ∧ Below (w.heap.size + 1) (w.alloc (.cells #[.int .i64 n, .int .i64 c, .slice (some ⟨g1, 0, none⟩) o cap1, .slice a2 m cap2] 59)) wr) (fun i _ => o - (intOf i).toNat)
  case atStart => exact ⟨0, by omega, rfl, rfl, Below.refl _ _⟩
  case round =>
    obtain ⟨k, hk, rfl, hout, hbel⟩ := hrel
    have hb1 : wr.cell? ⟨w.heap.size, 1, none⟩ = some (.int .i64 c) := (hbel.cell (p := ⟨w.heap.size, 1, none⟩) (by simp)).trans (by simp)
    have hb2 : wr.cell? ⟨w.heap.size, 2, none⟩ = some (.slice (some ⟨g1, 0, none⟩) o cap1) := (hbel.cell (p := ⟨w.heap.size, 2, none⟩) (by simp)).trans (by simp)
    by_cases hlt : k < o
    · have hold : ∀ i, wr.cell? ⟨g1, i, none⟩ = w.cell? ⟨g1, i, none⟩ := fun i => (hbel.cell (p := ⟨g1, i, none⟩) (by show g1 < _; omega)).trans (World.cell?_alloc_lt _ _ _ hg1)
      have e0 := (hold k).trans (unhide HC1 k _ (bvals_at s 5 o k hlt))
      have HB := hide hbel
      clear hold hbel
      have hik : (k : Int) < (o : Int) := by omega
      have b0 := M.bz_lt s (5 + k)
      have HE1 := hide (HF1.out k hlt)
      have HE2 := hide (HN.out k hout.out)
      generalize M.bz s (5 + k) = x at *
      go_wp2_with fail
      go_region_held3 (fun w' => w'.cell? ⟨w.heap.size, 1, none⟩ = some (.int .i64 c) ∧ w'.cell? ⟨w.heap.size, 2, none⟩ = some (.slice (some ⟨g1, 0, none⟩) o cap1) ∧ w'.cell? ⟨g1, k, none⟩ = some (.int .i64 x)) (go_keep) (fail)
      clear e0 hb1 hb2
      have HB1 := hide (unhide HB).drew
      by_cases hle : x < c
      · have HR := hide (unhide HE2 hle)
        go_wp2
        go_roundw
        case rel => exact ⟨k + 1, by omega, by go_num, HR, unhide HB1⟩
        case measure => simp [intOf]; omega
      · have HR := hide (HI.out false (unhide HE1 hle))
        go_wp2
        go_ret
        exact ⟨HR.out, below_box (unhide HB1)⟩
    · have hko : k = o := by omega
      subst hko
      have HB := hide hbel
      clear hlt hbel
      go_wp2_with fail
      clear hb1 hb2
      go_loopw [4] (fun i wr => ∃ j : Nat, j ≤ m ∧ i = .int .i64 j ∧ Hid (M.cSteps s j = true) ∧ Below (w.heap.size + 1) (w.alloc (.cells #[.int .i64 n, .int .i64 c, .slice (some ⟨g1, 0, none⟩) k cap1, .slice a2 m cap2] 59)) wr) (fun i _ => m - (intOf i).toNat)
      case atStart => exact ⟨0, by omega, rfl, rfl, unhide HB⟩
      case round =>
        clear HB
        obtain ⟨j, hj, rfl, hst, hbel⟩ := hrel
        have hb1 : wr.cell? ⟨w.heap.size, 1, none⟩ = some (.int .i64 c) := (hbel.cell (p := ⟨w.heap.size, 1, none⟩) (by simp)).trans (by simp)
        have hb3 : wr.cell? ⟨w.heap.size, 3, none⟩ = some (.slice a2 m cap2) := (hbel.cell (p := ⟨w.heap.size, 3, none⟩) (by simp)).trans (by simp)
        have HB := hide hbel
        have hsz := hbel.size
        simp only [World.size_alloc] at hsz
        by_cases hlt : j < m
        · obtain ⟨g, rfl, hg, hcell⟩ := unhide HB23 (by omega)
          have hold : ∀ i, wr.cell? ⟨g, i, none⟩ = w.cell? ⟨g, i, none⟩ := fun i => (hbel.cell (p := ⟨g, i, none⟩) (by show g < _; omega)).trans (World.cell?_alloc_lt _ _ _ hg)
          have e0 := (hold (j * 4)).trans (hcell (j * 4) _ (scells_at s (5 + k) m (j * 4) (by omega)))
          have e1 := (hold (j * 4 + 1)).trans (hcell (j * 4 + 1) _ (scells_at s (5 + k) m (j * 4 + 1) (by omega)))
          have e2 := (hold (j * 4 + 2)).trans (hcell (j * 4 + 2) _ (scells_at s (5 + k) m (j * 4 + 2) (by omega)))
          have e3 := (hold (j * 4 + 3)).trans (hcell (j * 4 + 3) _ (scells_at s (5 + k) m (j * 4 + 3) (by omega)))
          rw [show sval s (5 + k) (j * 4) = (M.bz s (5 + k + 4 * j) : Int) from by rw [Nat.mul_comm, sval0]] at e0
          rw [show sval s (5 + k) (j * 4 + 1) = (M.bz s (5 + k + 4 * j + 2) : Int) from by rw [Nat.mul_comm, sval1]] at e1
          rw [show sval s (5 + k) (j * 4 + 2) = (M.bz s (5 + k + 4 * j + 3) : Int) from by rw [Nat.mul_comm, sval2]] at e2
          rw [show sval s (5 + k) (j * 4 + 3) = (M.bz s (5 + k + 4 * j + 1) : Int) from by rw [Nat.mul_comm, sval3]] at e3
          have b0 := M.bz_lt s (5 + k + 4 * j)
          have b1 := M.bz_lt s (5 + k + 4 * j + 2)
          have b2 := M.bz_lt s (5 + k + 4 * j + 3)
          have b3 := M.bz_lt s (5 + k + 4 * j + 1)
          have HE1 := hide (HF2.out j hlt)
          have HE2 := hide (HO.out j hst.out)
          clear hold hcell hbel
          have hij : (j : Int) < (m : Int) := by omega
          generalize M.bz s (5 + k + 4 * j) = x at *
          generalize M.bz s (5 + k + 4 * j + 2) = y at *
          generalize M.bz s (5 + k + 4 * j + 3) = z at *
          generalize M.bz s (5 + k + 4 * j + 1) = t at *
          by_cases hle : t < c
          · have hge : decide ((c : Int) ≤ (t : Int)) = false := decide_eq_false (by omega)
            have hgn : decide (c ≤ t) = false := decide_eq_false (by omega)
            have hc65 : c ≤ 65535 := by omega
            go_wp2_with fail
            go_region_held3 (fun w' => w'.cell? ⟨w.heap.size, 1, none⟩ = some (.int .i64 c) ∧ w'.cell? ⟨w.heap.size, 3, none⟩ = some (.slice (some ⟨g, 0, none⟩) m cap2) ∧ w'.cell? ⟨g, j * 4, none⟩ = some (.int .i64 x) ∧ w'.cell? ⟨g, j * 4 + 1, none⟩ = some (.int .i64 y) ∧ w'.cell? ⟨g, j * 4 + 2, none⟩ = some (.int .i64 z) ∧ w'.cell? ⟨g, j * 4 + 3, none⟩ = some (.int .i64 t)) (first | go_keep | exact ⟨cell_later hbF hb1, cell_later hbF hb3, cell_later hbF e0, cell_later hbF e1, cell_later hbF e2, cell_later hbF e3⟩) ((go_at_call 100; refine (fits_any x y z c _ b0 b1 b2 hc65).mono ?_; rintro e w1 ⟨rfl, hbF⟩))
            have HB1 := hide ((unhide HB).drew.trans (hbF.mono hsz))
            clear hbF e0 e1 e2 e3 hb1 hb3 hge hgn
            cases hok : M.okOp x y z c
            · have HR := hide (HI.out false (unhide HE1 (by rw [hok]; rfl)))
              clear hok
              go_wp2
              go_ret
              exact ⟨HR.out, below_box (unhide HB1)⟩
            · have HR := hide (unhide HE2 (by rw [hok]; simpa using hle))
              clear hok
              go_wp2
              go_roundw
              case rel => exact ⟨j + 1, by omega, by go_num, HR, unhide HB1⟩
              case measure => simp [intOf]; omega
          · have hge : decide ((c : Int) ≤ (t : Int)) = true := decide_eq_true (by omega)
            have hgn : decide (c ≤ t) = true := decide_eq_true (by omega)
            have HR := hide (HI.out false (unhide HE1 (by rw [decide_eq_false hle]; simp)))
            go_wp2_with fail
            go_quiet (fail)
            go_wp2
            go_ret
            exact ⟨HR.out, below_box (below_drewN (unhide HB) _)⟩
        · have hjm : j = m := by omega
          subst hjm
          have HR := hide (HI.out true (HT.out hout.out hst.out))
          clear hbel
          go_wp2
          go_ret
          exact ⟨HR.out, below_box (unhide HB)⟩
end Go.Proofs.Ytjfmiomopfjecaa

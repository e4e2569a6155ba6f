/- The program's test of an image's nodes and outputs: sound. -/
import Derived.Test.YtjfmiomopfjecaaNetCode2
namespace Go.Proofs.Ytjfmiomopfjecaa
open Go.RowKit

/-- a row as a slice value whose address is known where there is an element -/
theorem HoldsRow.shape {w : World} {v : Value} {n : Nat} {xs : List Value} (h : HoldsRow w v n xs) :
    ∃ ao cap, v = .slice ao n cap ∧ n ≤ cap ∧ cap ≤ maxLen ∧ (0 < n → ∃ g, ao = some ⟨g, 0, none⟩ ∧ g < w.heap.size ∧ ∀ j u, xs[j]? = some u → w.cell? ⟨g, j, none⟩ = some u) := by
  rcases h with ⟨rfl, rfl⟩ | ⟨g, cap, rfl, hg, h1, h2, h3⟩
  · exact ⟨none, 0, rfl, Nat.le_refl _, Nat.zero_le _, fun h => absurd h (by omega)⟩
  · exact ⟨_, cap, rfl, h1, h2, fun _ => ⟨g, rfl, hg, h3⟩⟩

theorem sound_false1 {s : ByteArray} {k : Nat} (hk : k < M.bz s 2) (h : M.okOp (M.bz s (4 + 3 * k)) (M.bz s (5 + 3 * k)) (M.bz s (6 + 3 * k)) (M.bz s 1 + k) = false) : (M.nodesOk s (M.bz s 2) && M.outsOk s (M.bz s 3)) = false := by
  rw [show M.nodesOk s (M.bz s 2) = false from M.all_range_false (k := k) h hk]
  simp
theorem sound_false2 {s : ByteArray} {k : Nat} (hk : k < M.bz s 3) (h : ¬ M.bz s (4 + 3 * M.bz s 2 + k) < M.bz s 1 + M.bz s 2) : (M.nodesOk s (M.bz s 2) && M.outsOk s (M.bz s 3)) = false := by
  rw [show M.outsOk s (M.bz s 3) = false from M.all_range_false (k := k) (by simpa using h) hk]
  simp
theorem below_box {w w1 : World} {o : Obj} (h : Below (w.heap.size + 1) (w.alloc o) w1) : Below w.heap.size w w1 :=
  ((Below.refl _ _).alloc (Nat.le_refl _) o).trans (h.mono (by omega))
def soundOk (s : ByteArray) : Bool := M.nodesOk s (M.bz s 2) && M.outsOk s (M.bz s 3)

set_option maxHeartbeats 1600000 in
theorem sound_any (s : ByteArray) (v1 v2 : Value) (w : World) (h : M.headOk s = true)
    (hr1 : HoldsRow w v1 (M.bz s 2) (intCells (bvals s 4 (3 * M.bz s 2)))) (hr2 : HoldsRow w v2 (M.bz s 3) (intCells (bvals s (4 + 3 * M.bz s 2) (M.bz s 3)))) :
    Calls Try.prog 80 #[.agg #[.int .i64 (M.bz s 1), v1, v2]] w fun e w' => e = .returned (.bool (soundOk s)) ∧ Below w.heap.size w w' := by
  obtain ⟨h0, h1, h2, h3, h4, h5, h6⟩ := M.headOk_eq h
  have HI : Hid (∀ b, soundOk s = b → Ending.returned (.bool b) = .returned (.bool (soundOk s))) := fun b e => by rw [e]
  have HF1 : Hid (∀ k, k < M.bz s 2 → M.okOp (M.bz s (4 + 3 * k)) (M.bz s (5 + 3 * k)) (M.bz s (6 + 3 * k)) (M.bz s 1 + k) = false → soundOk s = false) := fun k hk e => sound_false1 hk e
  have HF2 : Hid (∀ k, k < M.bz s 3 → ¬ M.bz s (4 + 3 * M.bz s 2 + k) < M.bz s 1 + M.bz s 2 → soundOk s = false) := fun k hk e => sound_false2 hk e
  have HN : Hid (∀ k, M.nodesOk s k = true → M.okOp (M.bz s (4 + 3 * k)) (M.bz s (5 + 3 * k)) (M.bz s (6 + 3 * k)) (M.bz s 1 + k) = true → M.nodesOk s (k + 1) = true) := fun k a b => nodes_next a b
  have HO : Hid (∀ k, M.outsOk s k = true → M.bz s (4 + 3 * M.bz s 2 + k) < M.bz s 1 + M.bz s 2 → M.outsOk s (k + 1) = true) := fun k a b => outs_next a b
  have HT : Hid (M.nodesOk s (M.bz s 2) = true → M.outsOk s (M.bz s 3) = true → soundOk s = true) := fun a b => by unfold soundOk; rw [a, b]; rfl
  obtain ⟨a1, cap1, rfl, c11, c12, c13⟩ := hr1.shape
  obtain ⟨a2, cap2, rfl, c21, c22, c23⟩ := hr2.shape
  obtain ⟨g2, rfl, hg2, hcell2⟩ := c23 (by omega)
  have HB13 := hide c13
  have HC2 := hide hcell2
  clear h h0 h6 hr1 hr2 c13 c23 hcell2
  generalize hn : M.bz s 1 = n at *
  generalize hm : M.bz s 2 = m at *
  generalize hk : M.bz s 3 = c at *
  clear hn hm hk
  unfold maxLen at c12 c22
  go_enter Try.func80, Try.ntmps80
  go_wp2_with fail
  go_loopw [3] (fun i wr => ∃ k : Nat, k ≤ m ∧ i = .int .i64 k ∧ Hid (M.nodesOk s k = true) ∧ Below (w.heap.size + 1) (w.alloc (.cells #[.int .i64 n, .slice a1 m cap1, .slice (some ⟨g2, 0, none⟩) c cap2] 66)) wr) (fun i _ => m - (intOf i).toNat)
  case atStart => exact ⟨0, by omega, rfl, rfl, Below.refl _ _⟩
  case round =>
    obtain ⟨k, hk, rfl, hnod, hbel⟩ := hrel
    have hb0 : wr.cell? ⟨w.heap.size, 0, none⟩ = some (.int .i64 n) := (hbel.cell (p := ⟨w.heap.size, 0, none⟩) (by simp)).trans (by simp)
    have hb1 : wr.cell? ⟨w.heap.size, 1, none⟩ = some (.slice a1 m cap1) := (hbel.cell (p := ⟨w.heap.size, 1, none⟩) (by simp)).trans (by simp)
    have hb2 : wr.cell? ⟨w.heap.size, 2, none⟩ = some (.slice (some ⟨g2, 0, none⟩) c cap2) := (hbel.cell (p := ⟨w.heap.size, 2, none⟩) (by simp)).trans (by simp)
    have HB := hide hbel
    have hsz := hbel.size
    simp only [World.size_alloc] at hsz
    by_cases hlt : k < m
    · obtain ⟨g, rfl, hg, hcell⟩ := unhide HB13 (by omega)
      have hold : ∀ j, wr.cell? ⟨g, j, none⟩ = w.cell? ⟨g, j, none⟩ := fun j => (hbel.cell (p := ⟨g, j, none⟩) (by show g < _; omega)).trans (World.cell?_alloc_lt _ _ _ hg)
      have e0 := (hold (k * 3)).trans (hcell (k * 3) _ (bvals_at s 4 (3 * m) (k * 3) (by omega)))
      have e1 := (hold (k * 3 + 1)).trans (hcell (k * 3 + 1) _ (bvals_at s 4 (3 * m) (k * 3 + 1) (by omega)))
      have e2 := (hold (k * 3 + 2)).trans (hcell (k * 3 + 2) _ (bvals_at s 4 (3 * m) (k * 3 + 2) (by omega)))
      rw [show 4 + k * 3 = 4 + 3 * k from by omega] at e0
      rw [show 4 + (k * 3 + 1) = 5 + 3 * k from by omega] at e1
      rw [show 4 + (k * 3 + 2) = 6 + 3 * k from by omega] at e2
      have b0 := M.bz_lt s (4 + 3 * k)
      have b1 := M.bz_lt s (5 + 3 * k)
      have b2 := M.bz_lt s (6 + 3 * k)
      clear hold hcell hbel
      obtain ⟨q, hq⟩ : ∃ q : Nat, q = n + k := ⟨_, rfl⟩
      have hq4 : q ≤ 65535 := by omega
      have hwr : IntKind.i64.wrap ((n : Int) + (k : Int)) = (q : Int) := by rw [IntWalk.i64_in _ ⟨by omega, by omega⟩]; omega
      have HQ := hide hq
      clear hq
      have hik : (k : Int) < (m : Int) := by omega
      generalize hx : M.bz s (4 + 3 * k) = x at *
      generalize hy : M.bz s (5 + 3 * k) = y at *
      generalize hz : M.bz s (6 + 3 * k) = z at *
      have HX := hide hx
      have HY := hide hy
      have HZ := hide hz
      clear hx hy hz
      go_wp2_with fail
      go_region_held3 (fun w' => w'.cell? ⟨w.heap.size, 0, none⟩ = some (.int .i64 n) ∧ w'.cell? ⟨w.heap.size, 1, none⟩ = some (.slice (some ⟨g, 0, none⟩) m cap1) ∧ w'.cell? ⟨g, k * 3, none⟩ = some (.int .i64 x) ∧ w'.cell? ⟨g, k * 3 + 1, none⟩ = some (.int .i64 y) ∧ w'.cell? ⟨g, k * 3 + 2, none⟩ = some (.int .i64 z)) (first | go_keep | exact ⟨cell_later hbF hb0, cell_later hbF hb1, cell_later hbF e0, cell_later hbF e1, cell_later hbF e2⟩) ((go_at_call 100; refine (fits_any x y z q _ b0 b1 b2 hq4).mono ?_; rintro e w1 ⟨rfl, hbF⟩))
      have HB1 := hide ((unhide HB).drew.trans (hbF.mono hsz))
      clear hbF e0 e1 e2 hb0 hb1 hb2 hwr
      cases hok : M.okOp x y z q
      · have HR := hide (HI.out false (HF1.out k hlt (by rw [HX.out, HY.out, HZ.out, ← HQ.out]; exact hok)))
        clear hok
        go_wp2
        go_ret
        exact ⟨HR.out, below_box (unhide HB1)⟩
      · have HR := hide (HN.out k hnod.out (by rw [HX.out, HY.out, HZ.out, ← HQ.out]; exact hok))
        clear hok
        go_wp2
        go_roundw
        case rel => exact ⟨k + 1, by omega, by go_num, HR, unhide HB1⟩
        case measure => simp [intOf]; omega
    · have hkm : k = m := by omega
      subst hkm
      clear hlt hbel
      go_wp2_with fail
      clear hb0 hb1 hb2
      go_loopw [4] (fun i wr => ∃ j : Nat, j ≤ c ∧ i = .int .i64 j ∧ Hid (M.outsOk s j = true) ∧ Below (w.heap.size + 1) (w.alloc (.cells #[.int .i64 n, .slice a1 k cap1, .slice (some ⟨g2, 0, none⟩) c cap2] 66)) wr) (fun i _ => c - (intOf i).toNat)
      case atStart => exact ⟨0, by omega, rfl, rfl, unhide HB⟩
      case round =>
        clear HB hsz
        obtain ⟨j, hj, rfl, hout, hbel⟩ := hrel
        have hb0 : wr.cell? ⟨w.heap.size, 0, none⟩ = some (.int .i64 n) := (hbel.cell (p := ⟨w.heap.size, 0, none⟩) (by simp)).trans (by simp)
        have hb1 : wr.cell? ⟨w.heap.size, 1, none⟩ = some (.slice a1 k cap1) := (hbel.cell (p := ⟨w.heap.size, 1, none⟩) (by simp)).trans (by simp)
        have hb2 : wr.cell? ⟨w.heap.size, 2, none⟩ = some (.slice (some ⟨g2, 0, none⟩) c cap2) := (hbel.cell (p := ⟨w.heap.size, 2, none⟩) (by simp)).trans (by simp)
        by_cases hlt : j < c
        · have hold : ∀ i, wr.cell? ⟨g2, i, none⟩ = w.cell? ⟨g2, i, none⟩ := fun i => (hbel.cell (p := ⟨g2, i, none⟩) (by show g2 < _; omega)).trans (World.cell?_alloc_lt _ _ _ hg2)
          have e0 := (hold j).trans (unhide HC2 j _ (bvals_at s (4 + 3 * k) c j hlt))
          have HB := hide hbel
          clear hold hbel
          have hij : (j : Int) < (c : Int) := by omega
          have hwr : IntKind.i64.wrap ((n : Int) + (k : Int)) = (n : Int) + (k : Int) := IntWalk.i64_in _ ⟨by omega, by omega⟩
          have b0 := M.bz_lt s (4 + 3 * k + j)
          have HE1 := hide (HF2.out j hlt)
          have HE2 := hide (HO.out j hout.out)
          generalize M.bz s (4 + 3 * k + j) = x at *
          go_wp2_with fail
          go_region_held3 (fun w' => w'.cell? ⟨w.heap.size, 0, none⟩ = some (.int .i64 n) ∧ w'.cell? ⟨w.heap.size, 1, none⟩ = some (.slice a1 k cap1) ∧ w'.cell? ⟨w.heap.size, 2, none⟩ = some (.slice (some ⟨g2, 0, none⟩) c cap2) ∧ w'.cell? ⟨g2, j, none⟩ = some (.int .i64 x)) (go_keep) (fail)
          clear e0 hb0 hb1 hb2 hwr
          have HB1 := hide (unhide HB).drew
          by_cases hle : x < n + k
          · have HR := hide (unhide HE2 hle)
            have hle' : ¬ (n : Int) + (k : Int) ≤ (x : Int) := by omega
            go_wp2
            go_roundw
            case rel => exact ⟨j + 1, by omega, by go_num, HR, unhide HB1⟩
            case measure => simp [intOf]; omega
          · have HR := hide (HI.out false (unhide HE1 hle))
            have hle' : (n : Int) + (k : Int) ≤ (x : Int) := by omega
            go_wp2
            go_ret
            exact ⟨HR.out, below_box (unhide HB1)⟩
        · have hjc : j = c := by omega
          subst hjc
          have HR := hide (HI.out true (HT.out hnod.out hout.out))
          have HB := hide hbel
          clear hbel
          go_wp2
          go_ret
          exact ⟨HR.out, below_box (unhide HB)⟩
end Go.Proofs.Ytjfmiomopfjecaa

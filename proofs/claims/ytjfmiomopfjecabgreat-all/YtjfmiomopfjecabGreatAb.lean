/- Texts laid together: NetCode2, NetSound, NetParse, NetEval, DevPlan, DevInv, DevKeep, DevKeep2, DevJob, DevStep, DevStep2, DevStep3, DevNew, BoxMath, NodeLeaf. -/
import Derived.Test.YtjfmiomopfjecabGreatAa
import Derived.Laws.Tables
import Derived.Deep.WholeRow
import Derived.Deep.RegionHeld3
import Derived.Deep.QuietTactic
import Derived.BigQuiet
/- The program's reading of images: nodes, sound, Parse. -/
namespace Go.Proofs.YtjfmiomopfjecabGreat
open Go.RowKit

theorem infoNode : (Tryz.prog.info? 175).map (fun i => (i.zero, i.size, i.bytes)) = some (some (.agg #[.int .i64 0, .int .i64 0, .int .i64 0]), 3, 24) := by kernel_rfl
theorem bvals_three (s : ByteArray) (k : Nat) : intCells (bvals s 4 (3 * (k + 1))) = intCells (bvals s 4 (3 * k)) ++ [.int .i64 (M.bz s (4 + 3 * k)), .int .i64 (M.bz s (5 + 3 * k)), .int .i64 (M.bz s (6 + 3 * k))] := by
  have e : 3 * (k + 1) = 3 * k + 1 + 1 + 1 := by omega
  rw [e, bvals_succ, bvals_succ, bvals_succ, intCells_snoc, intCells_snoc, intCells_snoc]
  have e1 : 4 + (3 * k + 1) = 5 + 3 * k := by omega
  have e2 : 4 + (3 * k + 1 + 1) = 6 + 3 * k := by omega
  rw [e1, e2]
  simp

set_option maxHeartbeats 800000 in
theorem nodes_any (s : ByteArray) (c : Nat) (w : World) (hs : s.size ≤ maxLen) (hc : c ≤ 255) :
    Calls Tryz.prog 101 #[.string s, .int .i64 c] w fun e w' => ∃ v, e = .returned v ∧ w'.ownsRow w.heap.size 175 3 v c (intCells (bvals s 4 (3 * c))) ∧ Below w.heap.size w w' := by
  obtain ⟨i0, hi, hz0, hz1, hz2⟩ := info_parts infoNode
  have HI := hide hi
  have HZ0 := hide hz0
  have HZ1 := hide hz1
  have HZ2 := hide hz2
  clear hi hz0 hz1 hz2
  go_enter Tryz.func101, Tryz.ntmps101
  go_wp2_with fail
  go_loopw [5, 6] (fun v i wr => ∃ k : Nat, k ≤ c ∧ i = .int .i64 k ∧ wr.ownsRow w.heap.size 175 3 v k (intCells (bvals s 4 (3 * k))) ∧ Below w.heap.size w wr) (fun _ i _ => c - (intOf i).toNat)
  case atStart => exact ⟨0, by omega, rfl, World.ownsRow_nil _ _ _ _, Below.refl _ _⟩
  case round =>
    obtain ⟨k, hk, rfl, hown, hbel⟩ := hrel
    have HO := hide hown
    have HB := hide hbel
    have hsz := hbel.size
    clear hown hbel
    by_cases hlt : k < c
    · have HS := hide (bvals_three s k)
      go_wp2_with fail
      refine (wordByte_any s _ _ hs (by omega)).mono ?_
      rintro e w' ⟨rfl, rfl⟩
      rw [show (4 + 3 * (k : Int)).toNat = 4 + 3 * k from by omega]
      generalize M.bz s (4 + 3 * k) = x at *
      go_wp2_with fail
      refine (wordByte_any s _ _ hs (by omega)).mono ?_
      rintro e w' ⟨rfl, rfl⟩
      rw [show (4 + 3 * (k : Int) + 1).toNat = 5 + 3 * k from by omega]
      generalize M.bz s (5 + 3 * k) = y at *
      go_wp2_with fail
      refine (wordByte_any s _ _ hs (by omega)).mono ?_
      rintro e w' ⟨rfl, rfl⟩
      rw [show (4 + 3 * (k : Int) + 2).toNat = 6 + 3 * k from by omega]
      generalize M.bz s (6 + 3 * k) = z at *
      go_wp2_with (at_builtin; go_loud (refine append_one (wr.alloc (.cells #[.int .i64 x, .int .i64 y, .int .i64 z] 175)) rfl (.tmp 31) (.tmp 33) 121 rfl w.heap.size 175 i0 _ 3 24 Tryz.underlying121 (unhide HI) (unhide HZ0) (unhide HZ1) (unhide HZ2) rfl (by decide) u5 k _ rfl ((unhide HO).alloc _) [.int .i64 x, .int .i64 y, .int .i64 z] rfl (by simp [Act.eval]) (by simp [Value.oneCell']) (by omega) (by omega) (by simp; omega) ?_); intro v' w1 hown1 hbel1 hsz1)
      have HR : Hid (w1.ownsRow w.heap.size 175 3 v' (k + 1) (intCells (bvals s 4 (3 * (k + 1))))) := by rw [HS.out]; exact hown1
      have HB1 := hide (hbel1 w ((unhide HB).alloc hsz _))
      clear hown1 hbel1
      go_roundw
      case rel => exact ⟨k + 1, by omega, by go_num, unhide HR, unhide HB1⟩
      case measure => simp [intOf]; omega
    · have : k = c := by omega
      subst this
      go_wp2
      go_ret
      exact ⟨_, rfl, unhide HO, unhide HB⟩
end Go.Proofs.YtjfmiomopfjecabGreat

/- The program's test of an image's nodes and outputs: sound. -/
namespace Go.Proofs.YtjfmiomopfjecabGreat
open Go.RowKit

/-- a row as a slice value whose address is known where there is an element -/
theorem HoldsRow.shape {w : World} {v : Value} {n : Nat} {xs : List Value} (h : HoldsRow w v n xs) :
    ∃ ao cap, v = .slice ao n cap ∧ n ≤ cap ∧ cap ≤ maxLen ∧ (0 < n → ∃ g, ao = some ⟨g, 0, none⟩ ∧ g < w.heap.size ∧ ∀ j u, xs[j]? = some u → w.cell? ⟨g, j, none⟩ = some u) := by
  rcases h with ⟨rfl, rfl⟩ | ⟨g, cap, rfl, hg, h1, h2, h3⟩
  · exact ⟨none, 0, rfl, Nat.le_refl _, Nat.zero_le _, fun h => absurd h (by omega)⟩
  · exact ⟨_, cap, rfl, h1, h2, fun _ => ⟨g, rfl, hg, h3⟩⟩

theorem sound_false1 {s : ByteArray} {k : Nat} (hk : k < M.bz s 2) (h : M.okOp (M.bz s (4 + 3 * k)) (M.bz s (5 + 3 * k)) (M.bz s (6 + 3 * k)) (M.bz s 1 + k) = false) : (M.nodesOk s (M.bz s 2) && M.outsOk s (M.bz s 3)) = false := by
  rw [show M.nodesOk s (M.bz s 2) = false from M.all_range_false (k := k) h hk]
  simp
theorem sound_false2 {s : ByteArray} {k : Nat} (hk : k < M.bz s 3) (h : ¬ M.bz s (4 + 3 * M.bz s 2 + k) < M.bz s 1 + M.bz s 2) : (M.nodesOk s (M.bz s 2) && M.outsOk s (M.bz s 3)) = false := by
  rw [show M.outsOk s (M.bz s 3) = false from M.all_range_false (k := k) (by simpa using h) hk]
  simp
theorem below_box {w w1 : World} {o : Obj} (h : Below (w.heap.size + 1) (w.alloc o) w1) : Below w.heap.size w w1 :=
  ((Below.refl _ _).alloc (Nat.le_refl _) o).trans (h.mono (by omega))
def soundOk (s : ByteArray) : Bool := M.nodesOk s (M.bz s 2) && M.outsOk s (M.bz s 3)

set_option maxHeartbeats 1600000 in
theorem sound_any (s : ByteArray) (v1 v2 : Value) (w : World) (h : M.headOk s = true)
    (hr1 : HoldsRow w v1 (M.bz s 2) (intCells (bvals s 4 (3 * M.bz s 2)))) (hr2 : HoldsRow w v2 (M.bz s 3) (intCells (bvals s (4 + 3 * M.bz s 2) (M.bz s 3)))) :
    Calls Tryz.prog 103 #[.agg #[.int .i64 (M.bz s 1), v1, v2]] w fun e w' => e = .returned (.bool (soundOk s)) ∧ Below w.heap.size w w' := by
  obtain ⟨h0, h1, h2, h3, h4, h5, h6⟩ := M.headOk_eq h
  have HI : Hid (∀ b, soundOk s = b → Ending.returned (.bool b) = .returned (.bool (soundOk s))) := fun b e => by rw [e]
  have HF1 : Hid (∀ k, k < M.bz s 2 → M.okOp (M.bz s (4 + 3 * k)) (M.bz s (5 + 3 * k)) (M.bz s (6 + 3 * k)) (M.bz s 1 + k) = false → soundOk s = false) := fun k hk e => sound_false1 hk e
  have HF2 : Hid (∀ k, k < M.bz s 3 → ¬ M.bz s (4 + 3 * M.bz s 2 + k) < M.bz s 1 + M.bz s 2 → soundOk s = false) := fun k hk e => sound_false2 hk e
  have HN : Hid (∀ k, M.nodesOk s k = true → M.okOp (M.bz s (4 + 3 * k)) (M.bz s (5 + 3 * k)) (M.bz s (6 + 3 * k)) (M.bz s 1 + k) = true → M.nodesOk s (k + 1) = true) := fun k a b => nodes_next a b
  have HO : Hid (∀ k, M.outsOk s k = true → M.bz s (4 + 3 * M.bz s 2 + k) < M.bz s 1 + M.bz s 2 → M.outsOk s (k + 1) = true) := fun k a b => outs_next a b
  have HT : Hid (M.nodesOk s (M.bz s 2) = true → M.outsOk s (M.bz s 3) = true → soundOk s = true) := fun a b => by unfold soundOk; rw [a, b]; rfl
  obtain ⟨a1, cap1, rfl, c11, c12, c13⟩ := hr1.shape
  obtain ⟨a2, cap2, rfl, c21, c22, c23⟩ := hr2.shape
  obtain ⟨g2, rfl, hg2, hcell2⟩ := c23 (by omega)
  have HB13 := hide c13
  have HC2 := hide hcell2
  clear h h0 h6 hr1 hr2 c13 c23 hcell2
  generalize hn : M.bz s 1 = n at *
  generalize hm : M.bz s 2 = m at *
  generalize hk : M.bz s 3 = c at *
  clear hn hm hk
  unfold maxLen at c12 c22
  go_enter Tryz.func103, Tryz.ntmps103
  go_wp2_with fail
  go_loopw [3] (fun i wr => ∃ k : Nat, k ≤ m ∧ i = .int .i64 k ∧ Hid (M.nodesOk s k = true) ∧ Below (w.heap.size + 1) (w.alloc (.cells #[.int .i64 n, .slice a1 m cap1, .slice (some ⟨g2, 0, none⟩) c cap2] 123)) wr) (fun i _ => m - (intOf i).toNat)
  case atStart => exact ⟨0, by omega, rfl, rfl, Below.refl _ _⟩
  case round =>
    obtain ⟨k, hk, rfl, hnod, hbel⟩ := hrel
    have hb0 : wr.cell? ⟨w.heap.size, 0, none⟩ = some (.int .i64 n) := (hbel.cell (p := ⟨w.heap.size, 0, none⟩) (by simp)).trans (by simp)
    have hb1 : wr.cell? ⟨w.heap.size, 1, none⟩ = some (.slice a1 m cap1) := (hbel.cell (p := ⟨w.heap.size, 1, none⟩) (by simp)).trans (by simp)
    have hb2 : wr.cell? ⟨w.heap.size, 2, none⟩ = some (.slice (some ⟨g2, 0, none⟩) c cap2) := (hbel.cell (p := ⟨w.heap.size, 2, none⟩) (by simp)).trans (by simp)
    have HB := hide hbel
    have hsz := hbel.size
    simp only [World.size_alloc] at hsz
    by_cases hlt : k < m
    · obtain ⟨g, rfl, hg, hcell⟩ := unhide HB13 (by omega)
      have hold : ∀ j, wr.cell? ⟨g, j, none⟩ = w.cell? ⟨g, j, none⟩ := fun j => (hbel.cell (p := ⟨g, j, none⟩) (by show g < _; omega)).trans (World.cell?_alloc_lt _ _ _ hg)
      have e0 := (hold (k * 3)).trans (hcell (k * 3) _ (bvals_at s 4 (3 * m) (k * 3) (by omega)))
      have e1 := (hold (k * 3 + 1)).trans (hcell (k * 3 + 1) _ (bvals_at s 4 (3 * m) (k * 3 + 1) (by omega)))
      have e2 := (hold (k * 3 + 2)).trans (hcell (k * 3 + 2) _ (bvals_at s 4 (3 * m) (k * 3 + 2) (by omega)))
      rw [show 4 + k * 3 = 4 + 3 * k from by omega] at e0
      rw [show 4 + (k * 3 + 1) = 5 + 3 * k from by omega] at e1
      rw [show 4 + (k * 3 + 2) = 6 + 3 * k from by omega] at e2
      have b0 := M.bz_lt s (4 + 3 * k)
      have b1 := M.bz_lt s (5 + 3 * k)
      have b2 := M.bz_lt s (6 + 3 * k)
      clear hold hcell hbel
      obtain ⟨q, hq⟩ : ∃ q : Nat, q = n + k := ⟨_, rfl⟩
      have hq4 : q ≤ 65535 := by omega
      have hwr : IntKind.i64.wrap ((n : Int) + (k : Int)) = (q : Int) := by rw [IntWalk.i64_in _ ⟨by omega, by omega⟩]; omega
      have HQ := hide hq
      clear hq
      have hik : (k : Int) < (m : Int) := by omega
      generalize hx : M.bz s (4 + 3 * k) = x at *
      generalize hy : M.bz s (5 + 3 * k) = y at *
      generalize hz : M.bz s (6 + 3 * k) = z at *
      have HX := hide hx
      have HY := hide hy
      have HZ := hide hz
      clear hx hy hz
      go_wp2_with fail
      go_region_held3 (fun w' => w'.cell? ⟨w.heap.size, 0, none⟩ = some (.int .i64 n) ∧ w'.cell? ⟨w.heap.size, 1, none⟩ = some (.slice (some ⟨g, 0, none⟩) m cap1) ∧ w'.cell? ⟨g, k * 3, none⟩ = some (.int .i64 x) ∧ w'.cell? ⟨g, k * 3 + 1, none⟩ = some (.int .i64 y) ∧ w'.cell? ⟨g, k * 3 + 2, none⟩ = some (.int .i64 z)) (first | go_keep | exact ⟨cell_later hbF hb0, cell_later hbF hb1, cell_later hbF e0, cell_later hbF e1, cell_later hbF e2⟩) ((go_at_call 130; refine (fits_any x y z q _ b0 b1 b2 hq4).mono ?_; rintro e w1 ⟨rfl, hbF⟩))
      have HB1 := hide ((unhide HB).drew.trans (hbF.mono hsz))
      clear hbF e0 e1 e2 hb0 hb1 hb2 hwr
      cases hok : M.okOp x y z q
      · have HR := hide (HI.out false (HF1.out k hlt (by rw [HX.out, HY.out, HZ.out, ← HQ.out]; exact hok)))
        clear hok
        go_wp2
        go_ret
        exact ⟨HR.out, below_box (unhide HB1)⟩
      · have HR := hide (HN.out k hnod.out (by rw [HX.out, HY.out, HZ.out, ← HQ.out]; exact hok))
        clear hok
        go_wp2
        go_roundw
        case rel => exact ⟨k + 1, by omega, by go_num, HR, unhide HB1⟩
        case measure => simp [intOf]; omega
    · have hkm : k = m := by omega
      subst hkm
      clear hlt hbel
      go_wp2_with fail
      clear hb0 hb1 hb2
      go_loopw [4] (fun i wr => ∃ j : Nat, j ≤ c ∧ i = .int .i64 j ∧ Hid (M.outsOk s j = true) ∧ Below (w.heap.size + 1) (w.alloc (.cells #[.int .i64 n, .slice a1 k cap1, .slice (some ⟨g2, 0, none⟩) c cap2] 123)) wr) (fun i _ => c - (intOf i).toNat)
      case atStart => exact ⟨0, by omega, rfl, rfl, unhide HB⟩
      case round =>
        clear HB hsz
        obtain ⟨j, hj, rfl, hout, hbel⟩ := hrel
        have hb0 : wr.cell? ⟨w.heap.size, 0, none⟩ = some (.int .i64 n) := (hbel.cell (p := ⟨w.heap.size, 0, none⟩) (by simp)).trans (by simp)
        have hb1 : wr.cell? ⟨w.heap.size, 1, none⟩ = some (.slice a1 k cap1) := (hbel.cell (p := ⟨w.heap.size, 1, none⟩) (by simp)).trans (by simp)
        have hb2 : wr.cell? ⟨w.heap.size, 2, none⟩ = some (.slice (some ⟨g2, 0, none⟩) c cap2) := (hbel.cell (p := ⟨w.heap.size, 2, none⟩) (by simp)).trans (by simp)
        by_cases hlt : j < c
        · have hold : ∀ i, wr.cell? ⟨g2, i, none⟩ = w.cell? ⟨g2, i, none⟩ := fun i => (hbel.cell (p := ⟨g2, i, none⟩) (by show g2 < _; omega)).trans (World.cell?_alloc_lt _ _ _ hg2)
          have e0 := (hold j).trans (unhide HC2 j _ (bvals_at s (4 + 3 * k) c j hlt))
          have HB := hide hbel
          clear hold hbel
          have hij : (j : Int) < (c : Int) := by omega
          have hwr : IntKind.i64.wrap ((n : Int) + (k : Int)) = (n : Int) + (k : Int) := IntWalk.i64_in _ ⟨by omega, by omega⟩
          have b0 := M.bz_lt s (4 + 3 * k + j)
          have HE1 := hide (HF2.out j hlt)
          have HE2 := hide (HO.out j hout.out)
          generalize M.bz s (4 + 3 * k + j) = x at *
          go_wp2_with fail
          go_region_held3 (fun w' => w'.cell? ⟨w.heap.size, 0, none⟩ = some (.int .i64 n) ∧ w'.cell? ⟨w.heap.size, 1, none⟩ = some (.slice a1 k cap1) ∧ w'.cell? ⟨w.heap.size, 2, none⟩ = some (.slice (some ⟨g2, 0, none⟩) c cap2) ∧ w'.cell? ⟨g2, j, none⟩ = some (.int .i64 x)) (go_keep) (fail)
          clear e0 hb0 hb1 hb2 hwr
          have HB1 := hide (unhide HB).drew
          by_cases hle : x < n + k
          · have HR := hide (unhide HE2 hle)
            have hle' : ¬ (n : Int) + (k : Int) ≤ (x : Int) := by omega
            go_wp2
            go_roundw
            case rel => exact ⟨j + 1, by omega, by go_num, HR, unhide HB1⟩
            case measure => simp [intOf]; omega
          · have HR := hide (HI.out false (unhide HE1 hle))
            have hle' : (n : Int) + (k : Int) ≤ (x : Int) := by omega
            go_wp2
            go_ret
            exact ⟨HR.out, below_box (unhide HB1)⟩
        · have hjc : j = c := by omega
          subst hjc
          have HR := hide (HI.out true (HT.out hnod.out hout.out))
          have HB := hide hbel
          clear hbel
          go_wp2
          go_ret
          exact ⟨HR.out, below_box (unhide HB)⟩
end Go.Proofs.YtjfmiomopfjecabGreat

/- net.Parse. -/
namespace Go.Proofs.YtjfmiomopfjecabGreat
open Go.RowKit

theorem parse_shape (s : ByteArray) (w : World) (hs : s.size ≤ maxLen) (h : M.headOk s = false) :
    Calls Tryz.prog 69 #[.string s] w fun e w' => e = .returned (.tuple #[.agg #[.int .i64 0, .slice none 0 0, .slice none 0 0], .bool false]) ∧ Below w.heap.size w w' := by
  go_enter Tryz.func69, Tryz.ntmps69
  go_wp2_with fail
  refine (shaped_no s _ hs h).mono ?_
  rintro e w' ⟨rfl, rfl⟩
  go_wp2
  exact bodyPost_ret (v := .tuple #[.agg #[.int .i64 0, .slice none 0 0, .slice none 0 0], .bool false]) (by simp [results, Tryz.results69, go_sem]) rfl ⟨rfl, (Below.refl _ _).alloc (Nat.le_refl _) _⟩

set_option maxHeartbeats 800000 in
theorem parse_any (s : ByteArray) (w : World) (hs : s.size ≤ maxLen) (h : M.headOk s = true) :
    Calls Tryz.prog 69 #[.string s] w fun e w' =>
      (soundOk s = true → ∃ v1 v2, e = .returned (.tuple #[.agg #[.int .i64 (M.bz s 1), v1, v2], .bool true]) ∧ HoldsRow w' v1 (M.bz s 2) (intCells (bvals s 4 (3 * M.bz s 2))) ∧ HoldsRow w' v2 (M.bz s 3) (intCells (bvals s (4 + 3 * M.bz s 2) (M.bz s 3)))) ∧
      (soundOk s = false → e = .returned (.tuple #[.agg #[.int .i64 0, .slice none 0 0, .slice none 0 0], .bool false])) ∧ Below w.heap.size w w' := by
  have HH := hide h
  have b1 := M.bz_lt s 1
  have b2 := M.bz_lt s 2
  have b3 := M.bz_lt s 3
  go_enter Tryz.func69, Tryz.ntmps69
  go_wp2_with fail
  refine (shaped_yes s _ hs h).mono ?_
  rintro e w' ⟨rfl, rfl⟩
  clear h
  go_wp2_with fail
  refine (wordByte_any s 2 _ hs (by omega)).mono ?_
  rintro e w' ⟨rfl, rfl⟩
  rw [show (2 : Int).toNat = 2 from rfl]
  go_wp2_with fail
  refine (wordByte_any s 3 _ hs (by omega)).mono ?_
  rintro e w' ⟨rfl, rfl⟩
  rw [show (3 : Int).toNat = 3 from rfl]
  go_wp2_with fail
  refine (wordByte_any s 1 _ hs (by omega)).mono ?_
  rintro e w' ⟨rfl, rfl⟩
  rw [show (1 : Int).toNat = 1 from rfl]
  go_wp2_with fail
  refine (nodes_any s (M.bz s 2) _ hs (by omega)).mono ?_
  rintro e w2 ⟨v1, rfl, hown1, hb2⟩
  obtain ⟨a1, cap1, rfl, _, _, _⟩ := (holdsRow_own hown1).shape
  have z0 : w2.cell? ⟨w.heap.size + 1, 0, none⟩ = some (.int .i64 (M.bz s 1)) := (hb2.cell (p := ⟨w.heap.size + 1, 0, none⟩) (by simp only [World.size_alloc]; omega)).trans (by go_simp)
  have z1 : w2.cell? ⟨w.heap.size + 1, 1, none⟩ = some (.slice none 0 0) := (hb2.cell (p := ⟨w.heap.size + 1, 1, none⟩) (by simp only [World.size_alloc]; omega)).trans (by go_simp)
  have z2 : w2.cell? ⟨w.heap.size + 1, 2, none⟩ = some (.slice none 0 0) := (hb2.cell (p := ⟨w.heap.size + 1, 2, none⟩) (by simp only [World.size_alloc]; omega)).trans (by go_simp)
  have r0 : w2.cell? ⟨w.heap.size, 0, none⟩ = some (.int .i64 0) := (hb2.cell (p := ⟨w.heap.size, 0, none⟩) (by simp only [World.size_alloc]; omega)).trans (by go_simp)
  have r1 : w2.cell? ⟨w.heap.size, 1, none⟩ = some (.slice none 0 0) := (hb2.cell (p := ⟨w.heap.size, 1, none⟩) (by simp only [World.size_alloc]; omega)).trans (by go_simp)
  have r2 : w2.cell? ⟨w.heap.size, 2, none⟩ = some (.slice none 0 0) := (hb2.cell (p := ⟨w.heap.size, 2, none⟩) (by simp only [World.size_alloc]; omega)).trans (by go_simp)
  have fz : ∀ o, w2.frozen? ⟨w.heap.size + 1, o, none⟩ = false := fun o => (hb2.frozen (p := ⟨w.heap.size + 1, o, none⟩) (by simp only [World.size_alloc]; omega)).trans (by go_simp)
  have fr : ∀ o, w2.frozen? ⟨w.heap.size, o, none⟩ = false := fun o => (hb2.frozen (p := ⟨w.heap.size, o, none⟩) (by simp only [World.size_alloc]; omega)).trans (by go_simp)
  have hsz2 := hb2.size
  simp only [World.size_alloc] at hsz2
  have HB2 : Hid (Below w.heap.size w w2) := (((Below.refl w.heap.size w).alloc (Nat.le_refl _) _).alloc (by simp) _).trans (hb2.mono (by simp; omega))
  have HO1 := hide hown1
  clear hown1 hb2
  go_wp2_with fail
  rw [show (4 + 3 * (M.bz s 2 : Int)) = ((4 + 3 * M.bz s 2 : Nat) : Int) from by omega]
  refine (wordBytes_any s (4 + 3 * M.bz s 2) (M.bz s 3) _ hs (by omega) (by omega)).mono ?_
  rintro e w3 ⟨v2, rfl, hown2, hb3⟩
  obtain ⟨a2, cap2, rfl, _, _, _⟩ := (holdsRow_own hown2).shape
  have hsz3 := hb3.size
  simp only [World.size_setCell] at hsz3
  have y0 : w3.cell? ⟨w.heap.size + 1, 0, none⟩ = some (.int .i64 (M.bz s 1)) := (hb3.cell (p := ⟨w.heap.size + 1, 0, none⟩) (by simp only [World.size_setCell]; omega)).trans (by go_simp)
  have y1 : w3.cell? ⟨w.heap.size + 1, 1, none⟩ = some (.slice a1 (M.bz s 2) cap1) := (hb3.cell (p := ⟨w.heap.size + 1, 1, none⟩) (by simp only [World.size_setCell]; omega)).trans (by go_simp)
  have y2 : w3.cell? ⟨w.heap.size + 1, 2, none⟩ = some (.slice none 0 0) := (hb3.cell (p := ⟨w.heap.size + 1, 2, none⟩) (by simp only [World.size_setCell]; omega)).trans (by go_simp)
  have q0 : w3.cell? ⟨w.heap.size, 0, none⟩ = some (.int .i64 0) := (hb3.cell (p := ⟨w.heap.size, 0, none⟩) (by simp only [World.size_setCell]; omega)).trans (by go_simp)
  have q1 : w3.cell? ⟨w.heap.size, 1, none⟩ = some (.slice none 0 0) := (hb3.cell (p := ⟨w.heap.size, 1, none⟩) (by simp only [World.size_setCell]; omega)).trans (by go_simp)
  have q2 : w3.cell? ⟨w.heap.size, 2, none⟩ = some (.slice none 0 0) := (hb3.cell (p := ⟨w.heap.size, 2, none⟩) (by simp only [World.size_setCell]; omega)).trans (by go_simp)
  have gz : ∀ o, w3.frozen? ⟨w.heap.size + 1, o, none⟩ = false := fun o => (hb3.frozen (p := ⟨w.heap.size + 1, o, none⟩) (by simp only [World.size_setCell]; omega)).trans (by go_simp)
  have gr : ∀ o, w3.frozen? ⟨w.heap.size, o, none⟩ = false := fun o => (hb3.frozen (p := ⟨w.heap.size, o, none⟩) (by simp only [World.size_setCell]; omega)).trans (by go_simp)
  have HB3 : Hid (Below w.heap.size w w3) := ((unhide HB2).setCell (by simp) _).trans (hb3.mono (by simp only [World.size_setCell]; omega))
  have o1 := ownsRow_setCell_below (ownsRow_below (ownsRow_setCell_below (unhide HO1) (a := ⟨w.heap.size + 1, 1, none⟩) (by simp only [World.size_alloc]; omega) (.slice a1 (M.bz s 2) cap1)) hb3) (a := ⟨w.heap.size + 1, 2, none⟩) (by simp only [World.size_alloc]; omega) (.slice a2 (M.bz s 3) cap2)
  have o2 := ownsRow_setCell_below hown2 (a := ⟨w.heap.size + 1, 2, none⟩) (by simp only [World.size_setCell]; omega) (.slice a2 (M.bz s 3) cap2)
  have HO1' := hide (holdsRow_own o1)
  have HO2 := hide (holdsRow_own o2)
  have HW1 := hide o1
  have HW2 := hide o2
  clear hown2 hb3 z0 z1 z2 r0 r1 r2 fz fr o1 o2 HO1 HB2
  go_wp2_with fail
  refine (sound_any s _ _ _ (unhide HH) (unhide HO1') (unhide HO2)).mono ?_
  rintro e w4 ⟨rfl, hb4⟩
  have hsz4 := hb4.size
  simp only [World.size_setCell] at hsz4
  have x0 : w4.cell? ⟨w.heap.size + 1, 0, none⟩ = some (.int .i64 (M.bz s 1)) := (hb4.cell (p := ⟨w.heap.size + 1, 0, none⟩) (by simp only [World.size_setCell]; omega)).trans (by go_simp)
  have x1 : w4.cell? ⟨w.heap.size + 1, 1, none⟩ = some (.slice a1 (M.bz s 2) cap1) := (hb4.cell (p := ⟨w.heap.size + 1, 1, none⟩) (by simp only [World.size_setCell]; omega)).trans (by go_simp)
  have x2 : w4.cell? ⟨w.heap.size + 1, 2, none⟩ = some (.slice a2 (M.bz s 3) cap2) := (hb4.cell (p := ⟨w.heap.size + 1, 2, none⟩) (by simp only [World.size_setCell]; omega)).trans (by go_simp)
  have p0 : w4.cell? ⟨w.heap.size, 0, none⟩ = some (.int .i64 0) := (hb4.cell (p := ⟨w.heap.size, 0, none⟩) (by simp only [World.size_setCell]; omega)).trans (by go_simp)
  have p1 : w4.cell? ⟨w.heap.size, 1, none⟩ = some (.slice none 0 0) := (hb4.cell (p := ⟨w.heap.size, 1, none⟩) (by simp only [World.size_setCell]; omega)).trans (by go_simp)
  have p2 : w4.cell? ⟨w.heap.size, 2, none⟩ = some (.slice none 0 0) := (hb4.cell (p := ⟨w.heap.size, 2, none⟩) (by simp only [World.size_setCell]; omega)).trans (by go_simp)
  have fr4 : ∀ o, w4.frozen? ⟨w.heap.size, o, none⟩ = false := fun o => (hb4.frozen (p := ⟨w.heap.size, o, none⟩) (by simp only [World.size_setCell]; omega)).trans (by go_simp)
  have HB4 : Hid (Below w.heap.size w w4) := ((unhide HB3).setCell (by simp) _).trans (hb4.mono (by simp only [World.size_setCell]; omega))
  have HR1 := hide (fun (x y z : Value) => holdsRow_own (ownsRow_setCell_below (ownsRow_setCell_below (ownsRow_setCell_below (ownsRow_below (unhide HW1) hb4) (a := ⟨w.heap.size, 0, none⟩) (by simp only [World.size_alloc]; omega) x) (a := ⟨w.heap.size, 1, none⟩) (by simp only [World.size_alloc]; omega) y) (a := ⟨w.heap.size, 2, none⟩) (by simp only [World.size_alloc]; omega) z))
  have HR2 := hide (fun (x y z : Value) => holdsRow_own (ownsRow_setCell_below (ownsRow_setCell_below (ownsRow_setCell_below (ownsRow_below (unhide HW2) hb4) (a := ⟨w.heap.size, 0, none⟩) (by simp only [World.size_setCell]; omega) x) (a := ⟨w.heap.size, 1, none⟩) (by simp only [World.size_setCell]; omega) y) (a := ⟨w.heap.size, 2, none⟩) (by simp only [World.size_setCell]; omega) z))
  clear HW1 HW2
  clear hb4 y0 y1 y2 q0 q1 q2 gz gr HO1' HO2 HB3
  cases hok : soundOk s
  · have HOK := hide hok
    clear hok
    go_wp2
    refine bodyPost_ret (v := .tuple #[.agg #[.int .i64 0, .slice none 0 0, .slice none 0 0], .bool false]) (by simp [results, Tryz.results69, go_sem, p0, p1, p2]) rfl ⟨?_, ?_, ?_⟩
    · intro h; rw [HOK.out] at h; cases h
    · intro _; rfl
    · exact (((unhide HB4).setCell (by simp) _).setCell (by simp) _).setCell (by simp) _
  · have HOK := hide hok
    clear hok
    go_wp2
    refine bodyPost_ret (v := .tuple #[.agg #[.int .i64 (M.bz s 1), .slice a1 (M.bz s 2) cap1, .slice a2 (M.bz s 3) cap2], .bool true]) (by simp [results, Tryz.results69, go_sem, p0, p1, p2]) rfl ⟨?_, ?_, ?_⟩
    · intro _; refine ⟨_, _, rfl, ?_, ?_⟩
      · exact unhide HR1 _ _ _
      · exact unhide HR2 _ _ _
    · intro h; rw [HOK.out] at h; cases h
    · exact (((unhide HB4).setCell (by simp) _).setCell (by simp) _).setCell (by simp) _
end Go.Proofs.YtjfmiomopfjecabGreat

/- net.Eval, slots.Check, slots.Eval. -/
namespace Go.Proofs.YtjfmiomopfjecabGreat
open Go.RowKit

theorem parse_ok (s : ByteArray) (w : World) (hs : s.size ≤ maxLen) (h : M.isImage s = true) :
    Calls Tryz.prog 69 #[.string s] w fun e w' => ∃ a1 cap1 a2 cap2, e = .returned (.tuple #[.agg #[.int .i64 (M.bz s 1), .slice a1 (M.bz s 2) cap1, .slice a2 (M.bz s 3) cap2], .bool true]) ∧
      HoldsRow w' (.slice a1 (M.bz s 2) cap1) (M.bz s 2) (intCells (bvals s 4 (3 * M.bz s 2))) ∧ HoldsRow w' (.slice a2 (M.bz s 3) cap2) (M.bz s 3) (intCells (bvals s (4 + 3 * M.bz s 2) (M.bz s 3))) ∧ Below w.heap.size w w' := by
  have hh := image_head h
  have hsd : soundOk s = true := by
    unfold M.isImage at h
    rw [hh] at h
    exact h
  refine (parse_any s w hs hh).mono fun e w' ⟨h1, _, h3⟩ => ?_
  obtain ⟨v1, v2, he, r1, r2⟩ := h1 hsd
  obtain ⟨a1, cap1, e1, _, _, _⟩ := r1.shape
  obtain ⟨a2, cap2, e2, _, _, _⟩ := r2.shape
  subst e1 e2
  exact ⟨a1, cap1, a2, cap2, he, r1, r2, h3⟩
theorem parse_no (s : ByteArray) (w : World) (hs : s.size ≤ maxLen) (h : M.isImage s = false) :
    Calls Tryz.prog 69 #[.string s] w fun e w' => e = .returned (.tuple #[.agg #[.int .i64 0, .slice none 0 0, .slice none 0 0], .bool false]) ∧ Below w.heap.size w w' := by
  cases hh : M.headOk s
  · exact parse_shape s w hs hh
  · refine (parse_any s w hs hh).mono fun e w' ⟨_, h2, h3⟩ => ⟨h2 ?_, h3⟩
    unfold M.isImage at h
    rw [hh] at h
    exact h

theorem netCheck_any (s : ByteArray) (w : World) (hs : s.size ≤ maxLen) :
    Calls Tryz.prog 55 #[.string s] w fun e w' => e = .returned (.int .i64 (checkNum s)) ∧ Below w.heap.size w w' := by
  have HC := hide (show checkNum s = if M.isImage s then 0 else 1 from rfl)
  cases h : M.isImage s
  · have HE : Hid (checkNum s = 1) := by rw [HC.out, h]; rfl
    go_enter Tryz.func55, Tryz.ntmps55
    go_wp2_with fail
    refine (parse_no s _ hs h).mono ?_
    clear h
    rintro e w' ⟨rfl, hb⟩
    go_wp2
    go_ret
    exact ⟨ret_int HE.out.symm, hb.alloc hb.size _⟩
  · have HE : Hid (checkNum s = 0) := by rw [HC.out, h]; rfl
    go_enter Tryz.func55, Tryz.ntmps55
    go_wp2_with fail
    refine (parse_ok s _ hs h).mono ?_
    clear h
    rintro e w' ⟨a1, cap1, a2, cap2, rfl, _, _, hb⟩
    go_wp2
    go_ret
    exact ⟨ret_int HE.out.symm, hb.alloc hb.size _⟩

theorem takes_any (n : Nat) (v1 v2 : Value) (inp : ByteArray) (w : World) (hn : n ≤ 255) (_hi : inp.size ≤ maxLen) :
    Calls Tryz.prog 110 #[.agg #[.int .i64 n, v1, v2], .string inp] w fun e w' => e = .returned (.bool (decide (inp.size = 2 * n))) ∧ Below w.heap.size w w' := by
  unfold maxLen at _hi
  have HE : Hid (((inp.size : Int) == 2 * (n : Int)) = decide (inp.size = 2 * n)) := by
    show _ = _
    rw [Bool.eq_iff_iff]; simp; omega
  go_enter Tryz.func110, Tryz.ntmps110
  go_wp2
  go_ret
  exact ⟨ret_bool HE.out, (Below.refl _ _).alloc (Nat.le_refl _) _⟩

theorem insOf_at {inp : ByteArray} {q : Nat} (hq : inp.size = 2 * q) (i : Nat) : (M.insOf inp q).getD i 0 = M.wordVal ((M.bz inp (2 * i) : Int) * 256 + M.bz inp (2 * i + 1)) := by
  by_cases hi : i < q
  · simp [M.insOf, hi]
  · rw [M.bz_out inp (2 * i) (by omega), M.bz_out inp (2 * i + 1) (by omega), List.getD_eq_getElem?_getD, List.getElem?_eq_none (by rw [M.insOf_length]; omega)]
    rfl
set_option maxHeartbeats 800000 in
theorem netValues_at (s inp : ByteArray) (q n m c : Nat) (a1 a2 : Option Addr) (cap1 cap2 : Nat) (w : World) (h : M.isImage s = true) (heq : inp.size = 2 * q) (hq4 : q ≤ 4) (hn : M.bz s 1 = n) (hm : M.bz s 2 = m)
    (hr1 : HoldsRow w (.slice a1 m cap1) m (intCells (bvals s 4 (3 * m)))) :
    Calls Tryz.prog 138 #[.agg #[.int .i64 n, .slice a1 m cap1, .slice a2 c cap2], .string inp] w fun e w' => ∃ v, e = .returned v ∧
      HoldsRow w' v (M.runTo s inp m).length (intCells (M.runTo s inp m)) ∧ Below w.heap.size w w' := by
  obtain ⟨h0, h1, h2, h3, h4, h5, h6⟩ := M.headOk_eq (image_head h)
  have HOP : Hid (∀ k, k < m → M.okOp (M.bz s (4 + 3 * k)) (M.bz s (5 + 3 * k)) (M.bz s (6 + 3 * k)) (n + k) = true) := by rw [← hm, ← hn]; exact fun k hk => image_nodes h hk
  have HR0 : Hid (M.insOf inp n = M.runTo s inp 0) := by rw [← hn]; rfl
  rw [hn] at h1 h2
  rw [hm] at h3
  have HN := hide hn
  have HEQ := hide heq
  have HB13 : Hid (0 < m → ∃ g, a1 = some ⟨g, 0, none⟩ ∧ g < w.heap.size ∧ ∀ j u, (intCells (bvals s 4 (3 * m)))[j]? = some u → w.cell? ⟨g, j, none⟩ = some u) := by
    obtain ⟨a, c, e, _, _, hx⟩ := hr1.shape
    simp only [Value.slice.injEq] at e
    obtain ⟨rfl, _, _⟩ := e
    exact hx
  have hcap : cap1 ≤ maxLen ∧ m ≤ cap1 := by
    obtain ⟨a, c, e, h1, h2, hx⟩ := hr1.shape
    simp only [Value.slice.injEq] at e
    obtain ⟨_, _, rfl⟩ := e
    exact ⟨h2, h1⟩
  obtain ⟨hcap1, hcap2⟩ := hcap
  unfold maxLen at hcap1
  have hval := hide (fun w => wordValues_any inp q w heq hq4)
  clear h h0 h4 h5 h6 heq hr1 hn hm
  go_enter Tryz.func138, Tryz.ntmps138
  go_wp2_with fail
  refine (unhide hval _).mono ?_
  rintro e w2 ⟨gv, rfl, hown, hb2⟩
  have hsz0 : w.heap.size + 1 ≤ w2.heap.size := by have := hb2.size; simp at this; omega
  have HB2 : Hid (Below (w.heap.size + 1) (w.alloc (.cells #[.int .i64 (n), .slice a1 (m) cap1, .slice a2 (c) cap2] 123)) w2) := hb2.mono (by simp)
  have HG := hide (holdsRow_own hown)
  have hc0 : w2.cell? ⟨w.heap.size, 0, none⟩ = some (.int .i64 (n)) := (hb2.cell (p := ⟨w.heap.size, 0, none⟩) (by simp)).trans (by simp)
  have hc1 : w2.cell? ⟨w.heap.size, 1, none⟩ = some (.slice a1 (m) cap1) := (hb2.cell (p := ⟨w.heap.size, 1, none⟩) (by simp)).trans (by simp)
  have hc2 : w2.cell? ⟨w.heap.size, 2, none⟩ = some (.slice a2 (c) cap2) := (hb2.cell (p := ⟨w.heap.size, 2, none⟩) (by simp)).trans (by simp)
  have HC : Hid (∀ wr, Below w2.heap.size w2 wr → wr.cell? ⟨w.heap.size, 0, none⟩ = some (.int .i64 (n)) ∧ wr.cell? ⟨w.heap.size, 1, none⟩ = some (.slice a1 (m) cap1)) :=
    fun wr hb => ⟨(hb.cell (p := ⟨w.heap.size, 0, none⟩) (by show w.heap.size < _; omega)).trans hc0, (hb.cell (p := ⟨w.heap.size, 1, none⟩) (by show w.heap.size < _; omega)).trans hc1⟩
  have hfin := hide (fun wr (hb : Below w2.heap.size w2 wr) => below_box ((unhide HB2).trans (hb.mono hsz0)))
  have HOLD : Hid (∀ wr, Below w2.heap.size w2 wr → ∀ g j, g < w.heap.size → wr.cell? ⟨g, j, none⟩ = w.cell? ⟨g, j, none⟩) := fun wr hb g j hg =>
    (hb.cell (p := ⟨g, j, none⟩) (by show g < _; omega)).trans (((unhide HB2).cell (p := ⟨g, j, none⟩) (by show g < _; omega)).trans (World.cell?_alloc_lt _ _ _ hg))
  clear hown hb2 hc0 hc1 hc2 HB2
  go_wp2_with fail
  go_loopw [6, 7] (fun v i wr => ∃ k : Nat, k ≤ n ∧ i = .int .i64 k ∧ wr.ownsRow w2.heap.size 3 1 v (M.insOf inp k).length (intCells (M.insOf inp k)) ∧ Below w2.heap.size w2 wr) (fun _ i _ => n - (intOf i).toNat)
  case atStart => exact ⟨0, by omega, rfl, World.ownsRow_nil _ _ _ _, Below.refl _ _⟩
  case round =>
    obtain ⟨k, hk, rfl, hown, hbel⟩ := hrel
    obtain ⟨hb0, hb1⟩ := unhide HC _ hbel
    have hsz := hbel.size
    have HL := hide (M.insOf_length inp k)
    have HO := hide hown
    have HB := hide hbel
    have HGr := hide ((unhide HG).mono hbel)
    clear hown hbel
    by_cases hlt : k < n
    · have HS : Hid (M.insOf inp (k + 1) = M.insOf inp k ++ [(M.insOf inp q).getD k 0]) := by
        rw [insOf_at HEQ.out, M.insOf_succ]; rfl
      go_wp2_with fail
      refine (wordAt_any _ (M.insOf inp q) k _ (unhide HGr) (by omega)).mono ?_
      rintro e w' ⟨rfl, rfl⟩
      generalize (M.insOf inp q).getD k 0 = x at *
      go_wp2_with (at_builtin; (refine append_int _ rfl (.tmp 18) (.tmp 22) rfl w2.heap.size u6 (M.insOf inp k) x rfl rfl (unhide HO) (by rw [HL.out]; omega) hsz ?_); intro v' w1 hown1 hbel1 hsz1)
      have HR : Hid (w1.ownsRow w2.heap.size 3 1 v' (M.insOf inp (k + 1)).length (intCells (M.insOf inp (k + 1)))) := by rw [HS.out]; exact hown1
      have HB1 := hide (hbel1 _ (unhide HB))
      clear hown1 hbel1 hb0 hb1
      go_roundw
      case rel => exact ⟨k + 1, by omega, by go_num, unhide HR, unhide HB1⟩
      case measure => simp [intOf]; omega
    · have hkn : k = n := by omega
      subst hkn
      have HO0 : Hid (wr.ownsRow w2.heap.size 3 1 u6 (M.runTo s inp 0).length (intCells (M.runTo s inp 0))) := by
        rw [← HR0.out]; exact unhide HO
      clear HO HR0 HL HGr
      go_wp2_with fail
      go_loopw [6, 8] (fun v i wr => ∃ j : Nat, j ≤ m ∧ i = .int .i64 j ∧ wr.ownsRow w2.heap.size 3 1 v (M.runTo s inp j).length (intCells (M.runTo s inp j)) ∧ Below w2.heap.size w2 wr) (fun _ i _ => m - (intOf i).toNat)
      case atStart => exact ⟨0, by omega, rfl, unhide HO0, unhide HB⟩
      case round =>
        clear HO0 HB hb0 hb1 hsz
        obtain ⟨j, hj, rfl, hown, hbel⟩ := hrel
        obtain ⟨hb0, hb1⟩ := unhide HC _ hbel
        have hsz := hbel.size
        have HV := hide (M.runTo_vals s inp j)
        have HRow := hide (holdsRow_own hown)
        have HLen := hide (M.runTo_length s inp j)
        have HO := hide hown
        have HB := hide hbel
        by_cases hlt2 : j < m
        · obtain ⟨g, rfl, hg, hcell⟩ := unhide HB13 (by omega)
          have hold := fun i => unhide HOLD _ hbel g i hg
          have e0 := (hold (j * 3)).trans (hcell (j * 3) _ (bvals_at s 4 (3 * m) (j * 3) (by omega)))
          have e1 := (hold (j * 3 + 1)).trans (hcell (j * 3 + 1) _ (bvals_at s 4 (3 * m) (j * 3 + 1) (by omega)))
          have e2 := (hold (j * 3 + 2)).trans (hcell (j * 3 + 2) _ (bvals_at s 4 (3 * m) (j * 3 + 2) (by omega)))
          rw [show 4 + j * 3 = 4 + 3 * j from by omega] at e0
          rw [show 4 + (j * 3 + 1) = 5 + 3 * j from by omega] at e1
          rw [show 4 + (j * 3 + 2) = 6 + 3 * j from by omega] at e2
          have b0 := M.bz_lt s (4 + 3 * j)
          have b1 := M.bz_lt s (5 + 3 * j)
          have b2 := M.bz_lt s (6 + 3 * j)
          have hop := okOp_le (HOP.out j hlt2)
          have HS : Hid (M.runTo s inp (j + 1) = M.runTo s inp j ++ [M.nodeVal (M.runTo s inp j) (M.bz s (4 + 3 * j)) (M.bz s (5 + 3 * j)) (M.bz s (6 + 3 * j))]) := rfl
          clear hold hcell hbel hown HOP
          generalize M.bz s (4 + 3 * j) = x at *
          generalize M.bz s (5 + 3 * j) = y at *
          generalize M.bz s (6 + 3 * j) = z at *
          have HP := hide hop
          clear hop
          go_wp2_with fail
          refine (nodeValue_any x y z _ (M.runTo s inp j) _ (unhide HV) (unhide HRow) b1 b2 (unhide HP).1 (unhide HP).2).mono ?_
          rintro e w1 ⟨rfl, hbF⟩
          have hsz1 := hbF.size
          generalize M.nodeVal (M.runTo s inp j) x y z = y1 at *
          have HO1 := hide (ownsRow_below (unhide HO) hbF)
          have HB1 := hide ((unhide HB).trans (hbF.mono hsz))
          clear hbF e0 e1 e2 hb0 hb1
          go_wp2_with (at_builtin; (refine append_int _ rfl (.tmp 38) (.tmp 40) rfl w2.heap.size u6 (M.runTo s inp j) y1 rfl rfl (unhide HO1) (by rw [HLen.out, HN.out]; omega) (by omega) ?_); intro v' w3 hown1 hbel1 hsz3)
          have HR : Hid (w3.ownsRow w2.heap.size 3 1 v' (M.runTo s inp (j + 1)).length (intCells (M.runTo s inp (j + 1)))) := by rw [HS.out]; exact hown1
          have HB3 := hide (hbel1 _ (unhide HB1))
          clear hown1 hbel1
          go_roundw
          case rel => exact ⟨j + 1, by omega, by go_num, unhide HR, unhide HB3⟩
          case measure => simp [intOf]; omega
        · have hjm : j = m := by omega
          subst hjm
          clear hbel hown
          go_wp2
          go_ret
          exact ⟨_, rfl, unhide HRow, unhide hfin _ (unhide HB)⟩

theorem netValues_any (s inp : ByteArray) (q : Nat) (a1 a2 : Option Addr) (cap1 cap2 : Nat) (w : World) (h : M.isImage s = true) (heq : inp.size = 2 * q) (hq4 : q ≤ 4)
    (hr1 : HoldsRow w (.slice a1 (M.bz s 2) cap1) (M.bz s 2) (intCells (bvals s 4 (3 * M.bz s 2)))) :
    Calls Tryz.prog 138 #[.agg #[.int .i64 (M.bz s 1), .slice a1 (M.bz s 2) cap1, .slice a2 (M.bz s 3) cap2], .string inp] w fun e w' => ∃ v, e = .returned v ∧
      HoldsRow w' v (M.runTo s inp (M.bz s 2)).length (intCells (M.runTo s inp (M.bz s 2))) ∧ Below w.heap.size w w' :=
  netValues_at s inp q _ _ _ a1 a2 cap1 cap2 w h heq hq4 rfl rfl hr1

theorem netEval_any (s inp : ByteArray) (a1 a2 : Option Addr) (cap1 cap2 : Nat) (w : World) (h : M.isImage s = true) (heq : inp.size = 2 * M.bz s 1)
    (hr1 : HoldsRow w (.slice a1 (M.bz s 2) cap1) (M.bz s 2) (intCells (bvals s 4 (3 * M.bz s 2)))) (hr2 : HoldsRow w (.slice a2 (M.bz s 3) cap2) (M.bz s 3) (intCells (bvals s (4 + 3 * M.bz s 2) (M.bz s 3)))) :
    Calls Tryz.prog 111 #[.agg #[.int .i64 (M.bz s 1), .slice a1 (M.bz s 2) cap1, .slice a2 (M.bz s 3) cap2], .string inp] w fun e w' => e = .returned (.string (M.evalOut s inp)) ∧ Below w.heap.size w w' := by
  obtain ⟨h0, h1, h2, h3, h4, h5, h6⟩ := M.headOk_eq (image_head h)
  have HFIN : Hid (M.outTo (M.runTo s inp (M.bz s 2)) s (4 + 3 * M.bz s 2) (M.bz s 3) = M.evalOut s inp) := rfl
  have HR1 := hide (hr1.mono ((Below.refl _ _).alloc (Nat.le_refl _) (.cells #[.int .i64 (M.bz s 1), .slice a1 (M.bz s 2) cap1, .slice a2 (M.bz s 3) cap2] 123)))
  have HR2 := hide (hr2.mono ((Below.refl _ _).alloc (Nat.le_refl _) (.cells #[.int .i64 (M.bz s 1), .slice a1 (M.bz s 2) cap1, .slice a2 (M.bz s 3) cap2] 123)))
  have HV := hide (M.runTo_vals s inp (M.bz s 2))
  clear hr1 hr2 h0 h6
  go_enter Tryz.func111, Tryz.ntmps111
  go_wp2_with fail
  refine (netValues_any s inp _ a1 a2 cap1 cap2 _ h heq h2 (unhide HR1)).mono ?_
  rintro e w2 ⟨v, rfl, hv, hb⟩
  have hb2 : w2.cell? ⟨w.heap.size, 2, none⟩ = some (.slice a2 (M.bz s 3) cap2) := (hb.cell (p := ⟨w.heap.size, 2, none⟩) (by simp)).trans (by simp)
  have HR := hide hv
  have HR2' := hide ((unhide HR2).mono hb)
  have hsz := hb.size
  simp only [World.size_alloc] at hsz
  have HB := hide (below_box (hb.mono (by simp)))
  clear hv hb heq h
  go_wp2_with fail
  refine (pick_any _ _ (M.runTo s inp (M.bz s 2)) s (4 + 3 * M.bz s 2) _ _ (unhide HV) (unhide HR) (unhide HR2') h5).mono ?_
  rintro e w1 ⟨rfl, hbF⟩
  have HB1 := hide ((unhide HB).trans (hbF.mono (by omega)))
  clear hbF hb2
  generalize M.outTo (M.runTo s inp (M.bz s 2)) s (4 + 3 * M.bz s 2) (M.bz s 3) = o at *
  go_wp2
  go_ret
  exact ⟨ret_string HFIN.out, unhide HB1⟩

def evalTxt (s inp : ByteArray) : ByteArray := if M.isImage s then (if inp.size = 2 * M.bz s 1 then M.evalOut s inp else ⟨#[]⟩) else ⟨#[]⟩
def evalNum (s inp : ByteArray) : Int := if M.isImage s then (if inp.size = 2 * M.bz s 1 then 0 else 2) else 1

theorem refEval_any (s inp : ByteArray) (w : World) (hs : s.size ≤ maxLen) (hi : inp.size ≤ maxLen) :
    Calls Tryz.prog 122 #[.string s, .string inp] w fun e w' => e = .returned (.tuple #[.string (evalTxt s inp), .int .i64 (evalNum s inp)]) ∧ Below w.heap.size w w' := by
  cases h : M.isImage s
  · have e1 : evalTxt s inp = ⟨#[]⟩ := by unfold evalTxt; rw [h]; rfl
    have e2 : evalNum s inp = 1 := by unfold evalNum; rw [h]; rfl
    rw [e1, e2]
    exact refEval_no s inp w hs h
  · by_cases hq : inp.size = 2 * M.bz s 1
    · have e1 : evalTxt s inp = M.evalOut s inp := by unfold evalTxt; rw [h, if_pos rfl, if_pos hq]
      have e2 : evalNum s inp = 0 := by unfold evalNum; rw [h, if_pos rfl, if_pos hq]
      rw [e1, e2]
      exact refEval_yes s inp w hs h hq
    · have e1 : evalTxt s inp = ⟨#[]⟩ := by unfold evalTxt; rw [h, if_pos rfl, if_neg hq]
      have e2 : evalNum s inp = 2 := by unfold evalNum; rw [h, if_pos rfl, if_neg hq]
      rw [e1, e2]
      exact refEval_input s inp w hs hi h hq

theorem ret_two {a b : ByteArray} {c d : Int} (h1 : a = b) (h2 : c = d) : Ending.returned (.tuple #[.string a, .int .i64 c]) = .returned (.tuple #[.string b, .int .i64 d]) := by rw [h1, h2]

theorem netAnswer_any (s inp : ByteArray) (w : World) (hs : s.size ≤ maxLen) (hi : inp.size ≤ maxLen) :
    Calls Tryz.prog 78 #[.string s, .string inp] w fun e w' => e = .returned (.tuple #[.string (evalTxt s inp), .int .i64 (evalNum s inp)]) ∧ Below w.heap.size w w' := by
  cases h : M.isImage s
  · have e1 : Hid (evalTxt s inp = ⟨#[]⟩) := by unfold evalTxt; rw [h]; rfl
    have e2 : Hid (evalNum s inp = 1) := by unfold evalNum; rw [h]; rfl
    go_enter Tryz.func78, Tryz.ntmps78
    go_wp2_with fail
    refine (parse_no s _ hs h).mono ?_
    clear h
    rintro e w' ⟨rfl, hb⟩
    go_wp2
    go_ret2
    exact ⟨ret_two e1.out.symm e2.out.symm, hb.alloc hb.size _⟩
  · have bz1 := M.bz_lt s 1
    by_cases hq : inp.size = 2 * M.bz s 1
    · have e1 : Hid (evalTxt s inp = M.evalOut s inp) := by unfold evalTxt; rw [h, if_pos rfl, if_pos hq]; rfl
      have e2 : Hid (evalNum s inp = 0) := by unfold evalNum; rw [h, if_pos rfl, if_pos hq]; rfl
      have HQ := hide hq
      clear hq
      go_enter Tryz.func78, Tryz.ntmps78
      go_wp2_with fail
      refine (parse_ok s _ hs h).mono ?_
      have HH := hide h
      clear h
      rintro e w1 ⟨a1, cap1, a2, cap2, rfl, hr1, hr2, hb⟩
      have HB := hide hb
      have HR1 := hide (hr1.mono ((Below.refl _ _).alloc (Nat.le_refl _) (.cells #[.int .i64 (M.bz s 1), .slice a1 (M.bz s 2) cap1, .slice a2 (M.bz s 3) cap2] 123)))
      have HR2 := hide (hr2.mono ((Below.refl _ _).alloc (Nat.le_refl _) (.cells #[.int .i64 (M.bz s 1), .slice a1 (M.bz s 2) cap1, .slice a2 (M.bz s 3) cap2] 123)))
      have hsz := hb.size
      clear hb hr1 hr2
      go_wp2_with fail
      refine (takes_any _ _ _ inp _ (by omega) hi).mono ?_
      rintro e w2 ⟨rfl, hb2⟩
      rw [show decide (inp.size = 2 * M.bz s 1) = true from decide_eq_true HQ.out]
      have c0 : w2.cell? ⟨w1.heap.size, 0, none⟩ = some (.int .i64 (M.bz s 1)) := (hb2.cell (p := ⟨w1.heap.size, 0, none⟩) (by simp)).trans (by simp)
      have c1 : w2.cell? ⟨w1.heap.size, 1, none⟩ = some (.slice a1 (M.bz s 2) cap1) := (hb2.cell (p := ⟨w1.heap.size, 1, none⟩) (by simp)).trans (by simp)
      have c2 : w2.cell? ⟨w1.heap.size, 2, none⟩ = some (.slice a2 (M.bz s 3) cap2) := (hb2.cell (p := ⟨w1.heap.size, 2, none⟩) (by simp)).trans (by simp)
      have HS1 := hide ((unhide HR1).mono hb2)
      have HS2 := hide ((unhide HR2).mono hb2)
      have HB2 : Hid (Below w.heap.size w w2) := ((unhide HB).alloc hsz _).trans (hb2.mono (by simp; omega))
      have hsz2 := hb2.size
      simp only [World.size_alloc] at hsz2
      clear hb2
      go_wp2_with fail
      refine (netEval_any s inp a1 a2 cap1 cap2 _ (unhide HH) (unhide HQ) (unhide HS1) (unhide HS2)).mono ?_
      rintro e w3 ⟨rfl, hb3⟩
      have HB3 := hide ((unhide HB2).trans (hb3.mono (by omega)))
      clear hb3
      go_wp2
      go_ret2
      exact ⟨ret_two e1.out.symm e2.out.symm, unhide HB3⟩
    · have e1 : Hid (evalTxt s inp = ⟨#[]⟩) := by unfold evalTxt; rw [h, if_pos rfl, if_neg hq]; rfl
      have e2 : Hid (evalNum s inp = 2) := by unfold evalNum; rw [h, if_pos rfl, if_neg hq]; rfl
      have HQ := hide hq
      clear hq
      go_enter Tryz.func78, Tryz.ntmps78
      go_wp2_with fail
      refine (parse_ok s _ hs h).mono ?_
      clear h
      rintro e w1 ⟨a1, cap1, a2, cap2, rfl, hr1, hr2, hb⟩
      have HB := hide hb
      have hsz := hb.size
      clear hb hr1 hr2
      go_wp2_with fail
      refine (takes_any _ _ _ inp _ (by omega) hi).mono ?_
      rintro e w2 ⟨rfl, hb2⟩
      rw [show decide (inp.size = 2 * M.bz s 1) = false from decide_eq_false HQ.out]
      have HB2 : Hid (Below w.heap.size w w2) := ((unhide HB).alloc hsz _).trans (hb2.mono (by simp; omega))
      clear hb2
      go_wp2
      go_ret2
      exact ⟨ret_two e1.out.symm e2.out.symm, unhide HB2⟩

theorem slotsEval_any (s inp : ByteArray) (w : World) (hs : s.size ≤ maxLen) (hi : inp.size ≤ maxLen) :
    Calls Tryz.prog 59 #[.string s, .string inp] w fun e w' => e = .returned (.tuple #[.string (evalTxt s inp), .int .i64 (evalNum s inp)]) ∧ Below w.heap.size w w' := by
  go_enter Tryz.func59, Tryz.ntmps59
  go_wp2_with fail
  refine (netAnswer_any s inp _ hs hi).mono ?_
  rintro e w1 ⟨rfl, hb⟩
  generalize hx : evalTxt s inp = x at *
  generalize hy : evalNum s inp = y at *
  have HX := hide hx
  have HY := hide hy
  clear hx hy
  go_wp2
  refine bodyPost_ret (v := .tuple #[.string x, .int .i64 y]) (by simp [results, Tryz.results59, go_sem]) rfl ⟨ret_two HX.out.symm HY.out.symm, hb⟩

theorem num_any (n : Int) (w : World) : Calls Tryz.prog 63 #[.int .i64 n] w fun e w' => e = .returned (.int .i64 n) ∧ w = w' := by
  go_enter Tryz.func63, Tryz.ntmps63
  go_wp2
  go_ret
  exact ⟨rfl, rfl⟩
end Go.Proofs.YtjfmiomopfjecabGreat

/- The device's events in plain words. -/
namespace Go.Proofs.YtjfmiomopfjecabGreat.M

structure Dev where
  key : ByteArray
  F : Nat → Nat
  on : Bool
  wait : Nat
  next : Nat
  age : Nat
structure Ev where
  kind : Int
  n : Int
  text : ByteArray
  cut : Int
  torn : Int
structure Rp where
  err : Nat
  ver : Nat
  text : ByteArray
  ask : Int
/-- what an event comes to if the power does not fail -/
structure Plan where
  ws : List Wr
  err : Nat
  text : ByteArray
  ask : Int
  wait : Nat
  next : Nat
  age : Nat
  on : Bool
def idle (d : Dev) : Plan := ⟨[], 0, ⟨#[]⟩, -1, d.wait, d.next, d.age, d.on⟩
def fails (d : Dev) (e : Nat) : Plan := ⟨[], e, ⟨#[]⟩, -1, d.wait, d.next, d.age, d.on⟩

def boots (d : Dev) : Plan :=
  ⟨if fld d.F 2 = 2 then (if fld d.F 3 = 0 then [sameW d.F 0 0 0] else [sameW d.F 0 2 (fld d.F 3 - 1)]) else [], 0, ⟨#[]⟩, -1, 0, 1, 0, true⟩
/-- the new image, or why there is none -/
def builtN (F : Nat → Nat) : Nat × ByteArray :=
  let base := imgOf F (fld F 1)
  let patch := mk (mf F 4) fun j => F (80 + j)
  let s := patchTxt base patch (mf F 5)
  let at_ := 8 + 2 * chunksN (mf F 4)
  if patchNum base patch (mf F 5) ≠ 0 then (4, ⟨#[]⟩)
  else if crc s.data.toList ≠ mf F 6 * 256 + mf F 7 then (15, ⟨#[]⟩)
  else if isImage s = false then (1, ⟨#[]⟩)
  else if mf F at_ = 1 ∧ (evalNum s (mk (mf F (at_ + 1)) fun j => mf F (at_ + 3 + j)) ≠ 0 ∨ evalTxt s (mk (mf F (at_ + 1)) fun j => mf F (at_ + 3 + j)) ≠ mk (mf F (at_ + 2)) fun j => mf F (at_ + 3 + mf F (at_ + 1) + j)) then (16, ⟨#[]⟩)
  else (0, s)
def slotW (slot : Nat) (s : ByteArray) : List Wr := (List.range (chunksN s.size)).map fun i => textW (11 + 6 * slot + i) s (16 * i)
def installs (d : Dev) : Plan :=
  if (builtN d.F).1 ≠ 0 then ⟨[sameW d.F 0 0 (fld d.F 3)], (builtN d.F).1, ⟨#[]⟩, -1, d.wait, d.next, d.age, d.on⟩
  else
    ⟨slotW (1 - fld d.F 1) (builtN d.F).2 ++
      [if 1 - fld d.F 1 = 0 then noteW d.F 0 1 2 3 (builtN d.F).2.size (fld d.F 5) (mf d.F 0) (mf d.F 1) (fld d.F 8) (fld d.F 9) 0
       else noteW d.F 0 0 2 3 (fld d.F 4) (builtN d.F).2.size (fld d.F 6) (fld d.F 7) (mf d.F 0) (mf d.F 1) 0], 0, ⟨#[]⟩, -1, d.wait, d.next, 0, d.on⟩
def ticks (d : Dev) : Plan :=
  if fld d.F 2 = 2 then ⟨if 5 ≤ d.age + 1 then [sameW d.F 0 0 0] else [], 0, ⟨#[]⟩, -1, d.wait, d.next, d.age + 1, d.on⟩
  else if fld d.F 2 = 1 then
    match missing d.F with
    | [] => installs d
    | i :: _ => if d.wait ≤ 1 then ⟨[], 0, ⟨#[]⟩, i, d.next, min 8 (2 * d.next), d.age, d.on⟩ else ⟨[], 0, ⟨#[]⟩, -1, d.wait - 1, d.next, d.age, d.on⟩
  else idle d
def keptV (F : Nat → Nat) : Nat := verOf F (fld F 1)
def offers (d : Dev) (s : ByteArray) : Plan :=
  if fld d.F 2 = 2 then fails d 11
  else if isManifest d.key s = false then fails d 13
  else if bz s 0 * 256 + bz s 1 ≤ keptV d.F ∨ bz s 2 * 256 + bz s 3 ≠ keptV d.F then fails d 6
  else ⟨(if fld d.F 2 = 1 then [sameW d.F 0 0 (fld d.F 3)] else []) ++ [textW 2 s 0, textW 3 s 16, textW 4 s 32] ++ [sameW d.F (if fld d.F 2 = 1 then 1 else 0) 1 (fld d.F 3)], 0, ⟨#[]⟩, -1, 0, 1, d.age, d.on⟩
def takes (d : Dev) (i : Int) (s : ByteArray) : Plan :=
  if fld d.F 2 ≠ 1 then fails d 12
  else if i < 0 ∨ (chunksN (mf d.F 4) : Int) ≤ i ∨ s.size ≠ chunkLen (mf d.F 4) i.toNat ∨ crc s.data.toList ≠ mf d.F (8 + 2 * i.toNat) * 256 + mf d.F (9 + 2 * i.toNat) then fails d 14
  else if fld d.F 10 / 2 ^ i.toNat % 2 = 1 then idle d
  else ⟨[textW (5 + i.toNat) s 0, noteW d.F 0 (fld d.F 1) 1 (fld d.F 3) (fld d.F 4) (fld d.F 5) (fld d.F 6) (fld d.F 7) (fld d.F 8) (fld d.F 9) (fld d.F 10 + 2 ^ i.toNat)], 0, ⟨#[]⟩, -1, 0, 1, d.age, d.on⟩
def confirms (d : Dev) : Plan :=
  if fld d.F 2 ≠ 2 then fails d 12
  else ⟨[noteW d.F 0 (1 - fld d.F 1) 0 0 (fld d.F 4) (fld d.F 5) (fld d.F 6) (fld d.F 7) (fld d.F 8) (fld d.F 9) 0], 0, ⟨#[]⟩, -1, d.wait, d.next, d.age, d.on⟩
def infers (d : Dev) (s : ByteArray) : Plan := ⟨[], (evalNum (imgOf d.F (servedD d.F)) s).toNat, evalTxt (imgOf d.F (servedD d.F)) s, -1, d.wait, d.next, d.age, d.on⟩
def planned (d : Dev) (e : Ev) : Plan :=
  if e.kind < 1 ∨ 7 < e.kind then fails d 7
  else if e.kind = 2 ∧ d.on = true then fails d 9
  else if e.kind ≠ 2 ∧ d.on = false then fails d 8
  else if e.kind = 1 then { idle d with on := false }
  else if e.kind = 2 then boots d
  else if e.kind = 3 then ticks d
  else if e.kind = 4 then infers d e.text
  else if e.kind = 5 then offers d e.text
  else if e.kind = 6 then takes d e.n e.text
  else confirms d
/-- does the power fail? -/
def cuts (e : Ev) (l : List Wr) : Bool := decide (0 ≤ e.cut ∧ e.cut < l.length)
def tornN (t : Int) : Nat := min 16 t.toNat
theorem tornN_le (t : Int) : tornN t ≤ 16 := Nat.min_le_left _ _
def doM (d : Dev) (e : Ev) : Dev × Rp :=
  if cuts e (planned d e).ws = true then
    ({ d with F := cutAt d.F (planned d e).ws e.cut.toNat (tornN e.torn), on := false }, ⟨10, 0, ⟨#[]⟩, -1⟩)
  else
    (⟨d.key, puts d.F (planned d e).ws, (planned d e).on, (planned d e).wait, (planned d e).next, (planned d e).age⟩,
     ⟨(planned d e).err, if (planned d e).err = 0 ∧ (planned d e).on = true then verOf (puts d.F (planned d e).ws) (servedD (puts d.F (planned d e).ws)) else 0, (planned d e).text, (planned d e).ask⟩)

/-- what stands in a device's flash when it is as it should be -/
structure Good (key : ByteArray) (F : Nat → Nat) : Prop where
  bytes : ∀ j, F j < 256
  kept : fld F 1 ≤ 1
  phase : fld F 2 ≤ 2
  tries : fld F 3 ≤ 3
  len0 : fld F 4 ≤ 96
  len1 : fld F 5 ≤ 96
  old : isImage (imgOf F (fld F 1)) = true
  new : fld F 2 = 2 → isImage (imgOf F (1 - fld F 1)) = true
  man : fld F 2 = 1 → ∃ at_, sealOf (mf F) 48 = some at_
/-- the device between two events -/
def Inv (d : Dev) : Prop := (∃ w N, RecIs d.F w N) ∧ Good d.key d.F ∧ d.wait ≤ 8 ∧ 1 ≤ d.next ∧ d.next ≤ 8 ∧ d.age ≤ 5
theorem put_bytes {F : Nat → Nat} {p t : Nat} {s : Nat → Nat} (h : ∀ j, F j < 256) (hs : ∀ i, i < t → s i < 256) : ∀ j, put F p s t j < 256 := by
  intro j
  unfold put
  split
  · rename_i hc
    exact hs _ (by omega)
  · exact h j
theorem puts_bytes {F : Nat → Nat} {l : List Wr} (h : ∀ j, F j < 256) (hl : ∀ x ∈ l, ∀ i, i < 16 → x.2 i < 256) : ∀ j, puts F l j < 256 := by
  induction l generalizing F with
  | nil => exact h
  | cons x l ih =>
    rw [puts_cons]
    exact ih (put_bytes h (hl x (by simp))) (fun y hy => hl y (by simp [hy]))
theorem cut_bytes {F : Nat → Nat} {l : List Wr} {c t : Nat} (h : ∀ j, F j < 256) (hl : ∀ x ∈ l, ∀ i, i < 16 → x.2 i < 256) (ht : t ≤ 16) : ∀ j, cutAt F l c t j < 256 := by
  by_cases hc : c < l.length
  · rw [cutAt_in hc]
    exact put_bytes (puts_bytes h (fun x hx => hl x (List.mem_of_mem_take hx))) (fun i hi => hl _ (List.getElem_mem hc) i (by omega))
  · rw [cutAt_all (by omega)]
    exact puts_bytes h hl
end Go.Proofs.YtjfmiomopfjecabGreat.M

/- What stays so whatever happens to a device: the record is whole, what is kept and what is served are images. -/
namespace Go.Proofs.YtjfmiomopfjecabGreat.M

theorem imgOf_same {F F' : Nat → Nat} {slot : Nat} (hl : fld F' (4 + slot) = fld F (4 + slot)) (hle : fld F (4 + slot) ≤ 96) (h : ∀ j, j < 96 → F' (16 * (11 + 6 * slot) + j) = F (16 * (11 + 6 * slot) + j)) : imgOf F' slot = imgOf F slot := by
  unfold imgOf
  rw [hl]
  exact mk_congr fun j hj => h j (by omega)
theorem sealOf_same {g g' : Nat → Nat} {L : Nat} (h : ∀ j, j < 48 → g' j = g j) : sealOf g' L = sealOf g L := by
  unfold sealOf
  rw [h 4 (by omega), h 5 (by omega)]
  by_cases h1 : L ≤ 5 ∨ g 4 < 1 ∨ 96 < g 4 ∨ g 5 < 1 ∨ 96 < g 5
  · rw [if_pos h1, if_pos h1]
  · have hc : chunksN (g 4) ≤ 6 := by unfold chunksN; omega
    rw [h (8 + 2 * chunksN (g 4)) (by omega), h (9 + 2 * chunksN (g 4)) (by omega), h (10 + 2 * chunksN (g 4)) (by omega)]
theorem sealOf_more {g : Nat → Nat} {L L' at_ : Nat} (h : sealOf g L = some at_) (hL : L ≤ L') : sealOf g L' = some at_ := by
  unfold sealOf at *
  by_cases h1 : L ≤ 5 ∨ g 4 < 1 ∨ 96 < g 4 ∨ g 5 < 1 ∨ 96 < g 5
  · rw [if_pos h1] at h; cases h
  rw [if_neg h1] at h
  rw [if_neg (by omega)]
  by_cases h2 : L ≤ 8 + 2 * chunksN (g 4)
  · rw [if_pos h2] at h; cases h
  rw [if_neg h2] at h
  rw [if_neg (by omega)]
  by_cases h3 : g (8 + 2 * chunksN (g 4)) = 0
  · rw [if_pos h3] at h ⊢; exact h
  rw [if_neg h3] at h ⊢
  by_cases h4 : g (8 + 2 * chunksN (g 4)) = 1
  · rw [if_pos h4] at h ⊢
    by_cases h5 : L ≤ 8 + 2 * chunksN (g 4) + 2 ∨ 8 < g (9 + 2 * chunksN (g 4)) ∨ 8 < g (10 + 2 * chunksN (g 4))
    · rw [if_pos h5] at h; cases h
    · rw [if_neg h5] at h
      rw [if_neg (by omega)]
      exact h
  · rw [if_neg h4] at h; cases h
theorem man_seal {key s : ByteArray} (h : isManifest key s = true) : ∃ at_, sealOf (bz s) s.size = some at_ ∧ s.size = at_ + 2 ∧ bz s at_ * 256 + bz s (at_ + 1) = crc (key ++ mk at_ (bz s)).data.toList := by
  unfold isManifest at h
  cases e : sealOf (bz s) s.size with
  | none => rw [e] at h; cases h
  | some at_ =>
    rw [e] at h
    simp only [Bool.and_eq_true, decide_eq_true_eq] at h
    exact ⟨at_, rfl, h.1, h.2⟩
theorem man_size {key s : ByteArray} (h : isManifest key s = true) : s.size ≤ 41 := by
  obtain ⟨at_, h1, h2, _⟩ := man_seal h
  have := sealOf_le h1
  omega

/-- pages that an event may write while phase and kept slot are these -/
def Free (F : Nat → Nat) (os : List Wr) : Prop := ∀ x ∈ os, 2 ≤ x.1 ∧ x.1 ≤ 22 ∧ (x.1 < 11 + 6 * fld F 1 ∨ 17 + 6 * fld F 1 ≤ x.1) ∧ (fld F 2 = 1 → 5 ≤ x.1) ∧ (fld F 2 = 2 → x.1 ≤ 10)
theorem good_keeps {key : ByteArray} {F F' : Nat → Nat} {w N : Nat} {os : List Wr} (hg : Good key F) (hk : Keeps F F' w N os) (hb : ∀ j, F' j < 256) (hf : Free F os) : Good key F' := by
  have e := hk.2.1
  have h1 := hg.kept
  have h4 := hg.len0
  have h5 := hg.len1
  have hlen : ∀ slot, slot ≤ 1 → fld F (4 + slot) ≤ 96 := by
    intro slot hs
    have hc : slot = 0 ∨ slot = 1 := by omega
    rcases hc with rfl | rfl
    · exact h4
    · exact h5
  have himg : ∀ slot, slot ≤ 1 → (∀ x ∈ os, x.1 < 11 + 6 * slot ∨ 17 + 6 * slot ≤ x.1) → imgOf F' slot = imgOf F slot := by
    intro slot hs hx
    refine imgOf_same (e _ (by omega)) (hlen slot hs) fun j hj => hk.2.2 _ (by omega) fun x hxo => ?_
    have := hx x hxo
    omega
  refine ⟨hb, by rw [e 1 (by omega)]; exact h1, by rw [e 2 (by omega)]; exact hg.phase, by rw [e 3 (by omega)]; exact hg.tries, by rw [e 4 (by omega)]; exact h4, by rw [e 5 (by omega)]; exact h5, ?_, ?_, ?_⟩
  · rw [e 1 (by omega), himg _ h1 (fun x hx => (hf x hx).2.2.1)]
    exact hg.old
  · rw [e 1 (by omega), e 2 (by omega)]
    intro h2
    rw [himg _ (by omega) (fun x hx => by have := (hf x hx).2.2.2.2 h2; omega)]
    exact hg.new h2
  · rw [e 2 (by omega)]
    intro h2
    obtain ⟨at_, ha⟩ := hg.man h2
    refine ⟨at_, ?_⟩
    rw [sealOf_same (g := mf F)]
    · exact ha
    · intro j hj
      exact hk.2.2 _ (by omega) fun x hx => by have := (hf x hx).2.2.2.1 h2; omega

/-- a page's bytes are bytes -/
def Bts (x : Wr) : Prop := ∀ i, i < 16 → x.2 i < 256
theorem textW_bytes (p : Nat) (s : ByteArray) (f : Nat) : Bts (textW p s f) := fun _ _ => bz_lt _ _
theorem ite_lt {c : Prop} [Decidable c] {x y B : Nat} (hx : x < B) (hy : y < B) : (if c then x else y) < B := by
  split
  · exact hx
  · exact hy
theorem recB_bytes {num kept phase tries l0 l1 a b c d there : Nat} (h0 : num < 256) (h1 : kept < 256) (h2 : phase < 256) (h3 : tries < 256) (h4 : l0 < 256) (h5 : l1 < 256) (h6 : a < 256) (h7 : b < 256) (h8 : c < 256) (h9 : d < 256) (h10 : there < 256) (p : Nat) : Bts (p, recB num kept phase tries l0 l1 a b c d there) := by
  intro i _
  show recB num kept phase tries l0 l1 a b c d there i < 256
  unfold recB
  exact ite_lt h0 (ite_lt h1 (ite_lt h2 (ite_lt h3 (ite_lt h4 (ite_lt h5 (ite_lt h6 (ite_lt h7 (ite_lt h8 (ite_lt h9 (ite_lt h10 (ite_lt h0 (by decide))))))))))))
/-- pages, then a record, cut anywhere or not at all -/
theorem inv_record {key : ByteArray} {F : Nat → Nat} {w N : Nat} (hr : RecIs F w N) (hg : Good key F) (os : List Wr) (hf : Free F os) (hb : ∀ x ∈ os, Bts x) {kept phase tries l0 l1 a b c d there : Nat}
    (hrb : Bts (1 - w, recB ((N + 1) % 256) kept phase tries l0 l1 a b c d there))
    (hnew : (∀ j, puts F (os ++ [(1 - w, recB ((N + 1) % 256) kept phase tries l0 l1 a b c d there)]) j < 256) → Good key (puts F (os ++ [(1 - w, recB ((N + 1) % 256) kept phase tries l0 l1 a b c d there)]))) (k t : Nat) (ht : t ≤ 16) :
    (∃ w' N', RecIs (cutAt F (os ++ [(1 - w, recB ((N + 1) % 256) kept phase tries l0 l1 a b c d there)]) k t) w' N') ∧ Good key (cutAt F (os ++ [(1 - w, recB ((N + 1) % 256) kept phase tries l0 l1 a b c d there)]) k t) := by
  have hall : ∀ x ∈ os ++ [((1 - w, recB ((N + 1) % 256) kept phase tries l0 l1 a b c d there) : Wr)], ∀ i, i < 16 → x.2 i < 256 := by
    intro x hx
    rcases List.mem_append.1 hx with h | h
    · exact hb x h
    · simp only [List.mem_cons, List.not_mem_nil, or_false] at h
      subst h
      exact hrb
  rcases cut_cases hr os (fun x hx => (hf x hx).1) kept phase tries l0 l1 a b c d there k t ht with h | h
  · rw [h]
    exact ⟨⟨_, _, (all_written hr os (fun x hx => (hf x hx).1) kept phase tries l0 l1 a b c d there).1⟩, hnew (puts_bytes hg.bytes hall)⟩
  · exact ⟨⟨_, _, h.1⟩, good_keeps hg h (cut_bytes hg.bytes hall ht) hf⟩
/-- the same, all written -/
theorem inv_written {key : ByteArray} {F : Nat → Nat} {w N : Nat} (hr : RecIs F w N) (hg : Good key F) (os : List Wr) (hf : Free F os) (hb : ∀ x ∈ os, Bts x) {kept phase tries l0 l1 a b c d there : Nat}
    (hrb : Bts (1 - w, recB ((N + 1) % 256) kept phase tries l0 l1 a b c d there))
    (hnew : (∀ j, puts F (os ++ [(1 - w, recB ((N + 1) % 256) kept phase tries l0 l1 a b c d there)]) j < 256) → Good key (puts F (os ++ [(1 - w, recB ((N + 1) % 256) kept phase tries l0 l1 a b c d there)]))) :
    (∃ w' N', RecIs (puts F (os ++ [(1 - w, recB ((N + 1) % 256) kept phase tries l0 l1 a b c d there)])) w' N') ∧ Good key (puts F (os ++ [(1 - w, recB ((N + 1) % 256) kept phase tries l0 l1 a b c d there)])) := by
  have h := inv_record hr hg os hf hb hrb hnew (os ++ [((1 - w, recB ((N + 1) % 256) kept phase tries l0 l1 a b c d there) : Wr)]).length 16 (Nat.le_refl _)
  rw [cutAt_all (Nat.le_refl _)] at h
  exact h
/-- a record that keeps lengths, versions and slots' pages: what it says must be so -/
theorem good_note {key : ByteArray} {F : Nat → Nat} {w N : Nat} (hr : RecIs F w N) (hg : Good key F) {kept phase tries a b c d there : Nat} (os : List Wr) (ho : ∀ x ∈ os, 2 ≤ x.1 ∧ x.1 ≤ 10)
    (hk : kept ≤ 1) (hp : phase ≤ 2) (ht : tries ≤ 3) (hold : isImage (imgOf F kept) = true) (hnew : phase = 2 → isImage (imgOf F (1 - kept)) = true) (hman : phase = 1 → ∃ at_, sealOf (mf (puts F os)) 48 = some at_)
    (hb : ∀ j, puts F (os ++ [(1 - w, recB ((N + 1) % 256) kept phase tries (fld F 4) (fld F 5) a b c d there)]) j < 256) :
    Good key (puts F (os ++ [(1 - w, recB ((N + 1) % 256) kept phase tries (fld F 4) (fld F 5) a b c d there)])) := by
  obtain ⟨_, e, hout⟩ := all_written hr os (fun x hx => (ho x hx).1) kept phase tries (fld F 4) (fld F 5) a b c d there
  have e1 := e 1 (by omega)
  have e2 := e 2 (by omega)
  have e3 := e 3 (by omega)
  have e4 := e 4 (by omega)
  have e5 := e 5 (by omega)
  have himg : ∀ slot, slot ≤ 1 → imgOf (puts F (os ++ [(1 - w, recB ((N + 1) % 256) kept phase tries (fld F 4) (fld F 5) a b c d there)])) slot = imgOf F slot := by
    intro slot hs
    have hc : slot = 0 ∨ slot = 1 := by omega
    have hl : fld (puts F (os ++ [(1 - w, recB ((N + 1) % 256) kept phase tries (fld F 4) (fld F 5) a b c d there)])) (4 + slot) = fld F (4 + slot) := by
      rcases hc with rfl | rfl
      · exact e4
      · exact e5
    refine imgOf_same hl ?_ fun j hj => ?_
    · rcases hc with rfl | rfl
      · exact hg.len0
      · exact hg.len1
    · rw [hout _ (by omega)]
      exact puts_out fun x hx => by have := ho x hx; omega
  generalize puts F (os ++ [(1 - w, recB ((N + 1) % 256) kept phase tries (fld F 4) (fld F 5) a b c d there)]) = G at *
  have f1 : fld G 1 = kept := e1
  have f2 : fld G 2 = phase := e2
  have f3 : fld G 3 = tries := e3
  have f4 : fld G 4 = fld F 4 := e4
  have f5 : fld G 5 = fld F 5 := e5
  refine ⟨hb, by rw [f1]; exact hk, by rw [f2]; exact hp, by rw [f3]; exact ht, by rw [f4]; exact hg.len0, by rw [f5]; exact hg.len1, ?_, ?_, ?_⟩
  · rw [f1, himg _ hk]; exact hold
  · rw [f1, f2, himg _ (by omega)]; exact hnew
  · rw [f2]
    intro h2
    obtain ⟨at_, ha⟩ := hman h2
    refine ⟨at_, ?_⟩
    rw [sealOf_same (g := mf (puts F os))]
    · exact ha
    · intro j hj
      exact hout _ (by omega)
end Go.Proofs.YtjfmiomopfjecabGreat.M

/- Every event keeps the device as it should be, wherever the power fails. -/
namespace Go.Proofs.YtjfmiomopfjecabGreat.M

/-- the device between two events, its age told -/
def Inv' (d : Dev) : Prop := (∃ w N, RecIs d.F w N) ∧ Good d.key d.F ∧ d.wait ≤ 8 ∧ 1 ≤ d.next ∧ d.next ≤ 8 ∧ d.age ≤ 5 ∧ (d.on = true → fld d.F 2 = 2 → d.age ≤ 4)
def Stays (key : ByteArray) (F : Nat → Nat) (l : List Wr) : Prop := ∀ c t, t ≤ 16 → (∃ w N, RecIs (cutAt F l c t) w N) ∧ Good key (cutAt F l c t)
def Fine (d : Dev) (p : Plan) : Prop := Stays d.key d.F p.ws ∧ p.wait ≤ 8 ∧ 1 ≤ p.next ∧ p.next ≤ 8 ∧ p.age ≤ 5 ∧ (p.on = true → fld (puts d.F p.ws) 2 = 2 → p.age ≤ 4)
theorem stays_nil {key : ByteArray} {F : Nat → Nat} {w N : Nat} (hr : RecIs F w N) (hg : Good key F) : Stays key F [] := by
  intro c t _
  rw [cutAt_all (Nat.zero_le _)]
  exact ⟨⟨w, N, hr⟩, hg⟩
theorem sameW_is {F : Nat → Nat} {w N : Nat} (h : RecIs F w N) (phase tries : Nat) : sameW F 0 phase tries = (1 - w, recB ((N + 1) % 256) (fld F 1) phase tries (fld F 4) (fld F 5) (fld F 6) (fld F 7) (fld F 8) (fld F 9) 0) := noteW_is h ..
theorem fld_lt {key : ByteArray} {F : Nat → Nat} (hg : Good key F) (i : Nat) : fld F i < 256 := hg.bytes _
theorem free_nil (F : Nat → Nat) : Free F [] := fun x hx => by cases hx
theorem stays_note {key : ByteArray} {F : Nat → Nat} {w N : Nat} (hr : RecIs F w N) (hg : Good key F) {kept phase tries there : Nat} (hk : kept ≤ 1) (hp : phase ≤ 2) (ht : tries ≤ 3) (hth : there < 256)
    (hold : isImage (imgOf F kept) = true) (hnew : phase = 2 → isImage (imgOf F (1 - kept)) = true) (hman : phase = 1 → ∃ at_, sealOf (mf F) 48 = some at_) :
    Stays key F [noteW F 0 kept phase tries (fld F 4) (fld F 5) (fld F 6) (fld F 7) (fld F 8) (fld F 9) there] := by
  intro c t htt
  rw [noteW_is hr]
  exact inv_record hr hg [] (free_nil F) (fun x hx => by cases hx) (recB_bytes (by omega) (by omega) (by omega) (by omega) (fld_lt hg _) (fld_lt hg _) (fld_lt hg _) (fld_lt hg _) (fld_lt hg _) (fld_lt hg _) hth _)
    (fun hb => good_note hr hg [] (fun x hx => by cases hx) hk hp ht hold hnew hman hb) c t htt
theorem stays_same {key : ByteArray} {F : Nat → Nat} {w N : Nat} (hr : RecIs F w N) (hg : Good key F) {phase tries : Nat} (hp : phase = 0 ∨ phase = 2 ∧ fld F 2 = 2) (ht : tries ≤ 3) : Stays key F [sameW F 0 phase tries] :=
  stays_note hr hg hg.kept (by omega) ht (by omega) hg.old (fun h => hg.new (by omega)) (fun h => by omega)
theorem note_phase {F : Nat → Nat} {w N : Nat} (hr : RecIs F w N) (os : List Wr) (ho : ∀ x ∈ os, 2 ≤ x.1) (kept phase tries l0 l1 a b c d there : Nat) : fld (puts F (os ++ [noteW F 0 kept phase tries l0 l1 a b c d there])) 2 = phase := by
  rw [noteW_is hr]
  exact (all_written hr os ho kept phase tries l0 l1 a b c d there).2.1 2 (by omega)
theorem fine_idle {d : Dev} (h : Inv' d) : Fine d (idle d) := by
  obtain ⟨⟨w, N, hr⟩, hg, h1, h2, h3, h4, h5⟩ := h
  exact ⟨stays_nil hr hg, h1, h2, h3, h4, h5⟩
theorem fine_fails {d : Dev} (h : Inv' d) (e : Nat) : Fine d (fails d e) := by
  obtain ⟨⟨w, N, hr⟩, hg, h1, h2, h3, h4, h5⟩ := h
  exact ⟨stays_nil hr hg, h1, h2, h3, h4, h5⟩
theorem fine_infers {d : Dev} (h : Inv' d) (s : ByteArray) : Fine d (infers d s) := by
  obtain ⟨⟨w, N, hr⟩, hg, h1, h2, h3, h4, h5⟩ := h
  exact ⟨stays_nil hr hg, h1, h2, h3, h4, h5⟩
theorem fine_off {d : Dev} (h : Inv' d) : Fine d { idle d with on := false } := by
  obtain ⟨⟨w, N, hr⟩, hg, h1, h2, h3, h4, h5⟩ := h
  exact ⟨stays_nil hr hg, h1, h2, h3, h4, fun hh => by cases hh⟩
theorem fine_boots {d : Dev} (h : Inv' d) : Fine d (boots d) := by
  obtain ⟨⟨w, N, hr⟩, hg, h1, h2, h3, h4, h5⟩ := h
  refine ⟨?_, by show 0 ≤ _; omega, by show 1 ≤ 1; omega, by show 1 ≤ 8; omega, by show 0 ≤ _; omega, fun _ _ => by show 0 ≤ _; omega⟩
  have ht := hg.tries
  show Stays d.key d.F (if fld d.F 2 = 2 then (if fld d.F 3 = 0 then [sameW d.F 0 0 0] else [sameW d.F 0 2 (fld d.F 3 - 1)]) else [])
  by_cases e : fld d.F 2 = 2
  · rw [if_pos e]
    by_cases e3 : fld d.F 3 = 0
    · rw [if_pos e3]
      exact stays_same hr hg (.inl rfl) (by omega)
    · rw [if_neg e3]
      exact stays_same hr hg (.inr ⟨rfl, e⟩) (by omega)
  · rw [if_neg e]
    exact stays_nil hr hg
theorem fine_confirms {d : Dev} (h : Inv' d) : Fine d (confirms d) := by
  unfold confirms
  by_cases e : fld d.F 2 ≠ 2
  · rw [if_pos e]
    exact fine_fails h 12
  · rw [if_neg e]
    have e2 : fld d.F 2 = 2 := by omega
    obtain ⟨⟨w, N, hr⟩, hg, h1, h2, h3, h4, h5⟩ := h
    have hk := hg.kept
    refine ⟨stays_note hr hg (by omega) (by omega) (by omega) (by omega) (hg.new e2) (fun h => by omega) (fun h => by omega), h1, h2, h3, h4, fun _ hh => ?_⟩
    exfalso
    have := note_phase hr [] (fun x hx => by cases hx) (1 - fld d.F 1) 0 0 (fld d.F 4) (fld d.F 5) (fld d.F 6) (fld d.F 7) (fld d.F 8) (fld d.F 9) 0
    rw [List.nil_append] at this
    rw [this] at hh
    omega
theorem same_phase {F : Nat → Nat} {w N : Nat} (hr : RecIs F w N) (phase tries : Nat) : fld (puts F [sameW F 0 phase tries]) 2 = phase := note_phase hr [] (fun x hx => by cases hx) ..
theorem stays_take {key : ByteArray} {F : Nat → Nat} {w N : Nat} (hr : RecIs F w N) (hg : Good key F) (hp : fld F 2 = 1) (i : Nat) (hi : i < 6) (s : ByteArray) {there : Nat} (hth : there < 256) :
    Stays key F [textW (5 + i) s 0, noteW F 0 (fld F 1) 1 (fld F 3) (fld F 4) (fld F 5) (fld F 6) (fld F 7) (fld F 8) (fld F 9) there] := by
  intro c t htt
  rw [noteW_is hr]
  have hk := hg.kept
  have ht := hg.tries
  have hfr : Free F [textW (5 + i) s 0] := by
    intro x hx
    simp only [List.mem_cons, List.not_mem_nil, or_false] at hx
    subst hx
    show 2 ≤ 5 + i ∧ 5 + i ≤ 22 ∧ (5 + i < 11 + 6 * fld F 1 ∨ 17 + 6 * fld F 1 ≤ 5 + i) ∧ (fld F 2 = 1 → 5 ≤ 5 + i) ∧ (fld F 2 = 2 → 5 + i ≤ 10)
    omega
  refine inv_record hr hg [textW (5 + i) s 0] hfr (fun x hx => ?_) (recB_bytes (by omega) (by omega) (by omega) (by omega) (fld_lt hg _) (fld_lt hg _) (fld_lt hg _) (fld_lt hg _) (fld_lt hg _) (fld_lt hg _) hth _)
    (fun hb => good_note hr hg [textW (5 + i) s 0] (fun x hx => ?_) hk (by omega) ht hg.old (fun h => by omega) (fun _ => ?_) hb) c t htt
  · simp only [List.mem_cons, List.not_mem_nil, or_false] at hx
    subst hx
    exact textW_bytes _ _ _
  · simp only [List.mem_cons, List.not_mem_nil, or_false] at hx
    subst hx
    show 2 ≤ 5 + i ∧ 5 + i ≤ 10
    omega
  · obtain ⟨at_, ha⟩ := hg.man hp
    refine ⟨at_, ?_⟩
    rw [sealOf_same (g := mf F)]
    · exact ha
    · intro j hj
      refine puts_out fun x hx => ?_
      simp only [List.mem_cons, List.not_mem_nil, or_false] at hx
      subst hx
      show 32 + j < 16 * (5 + i) ∨ 16 * (5 + i) + 16 ≤ 32 + j
      omega
theorem bit_lt {x i : Nat} (hx : x < 256) (hi : i < 6) (h : x / 2 ^ i % 2 ≠ 1) : x + 2 ^ i < 256 := by
  have hc : i = 0 ∨ i = 1 ∨ i = 2 ∨ i = 3 ∨ i = 4 ∨ i = 5 := by omega
  rcases hc with rfl | rfl | rfl | rfl | rfl | rfl <;> simp at h ⊢ <;> omega
end Go.Proofs.YtjfmiomopfjecabGreat.M

/- Every event keeps the device as it should be: chunks, manifests, installations; all events. -/
namespace Go.Proofs.YtjfmiomopfjecabGreat.M

theorem chunks_le {p : Nat} (h : p ≤ 96) : chunksN p ≤ 6 := by unfold chunksN; omega
theorem man_len {key : ByteArray} {F : Nat → Nat} (hg : Good key F) (hp : fld F 2 = 1) : 1 ≤ mf F 4 ∧ mf F 4 ≤ 96 ∧ 1 ≤ mf F 5 ∧ mf F 5 ≤ 96 := by
  obtain ⟨at_, ha⟩ := hg.man hp
  have := sealOf_le ha
  omega
theorem fine_takes {d : Dev} (h : Inv' d) (i : Int) (s : ByteArray) : Fine d (takes d i s) := by
  unfold takes
  by_cases e1 : fld d.F 2 ≠ 1
  · rw [if_pos e1]
    exact fine_fails h 12
  rw [if_neg e1]
  by_cases e2 : i < 0 ∨ (chunksN (mf d.F 4) : Int) ≤ i ∨ s.size ≠ chunkLen (mf d.F 4) i.toNat ∨ crc s.data.toList ≠ mf d.F (8 + 2 * i.toNat) * 256 + mf d.F (9 + 2 * i.toNat)
  · rw [if_pos e2]
    exact fine_fails h 14
  rw [if_neg e2]
  by_cases e3 : fld d.F 10 / 2 ^ i.toNat % 2 = 1
  · rw [if_pos e3]
    exact fine_idle h
  rw [if_neg e3]
  obtain ⟨⟨w, N, hr⟩, hg, h1, h2, h3, h4, h5⟩ := h
  have hp : fld d.F 2 = 1 := by omega
  have hm := man_len hg hp
  have hc := chunks_le hm.2.1
  have hi : i.toNat < 6 := by omega
  refine ⟨stays_take hr hg hp i.toNat hi s (bit_lt (fld_lt hg 10) hi e3), by show 0 ≤ _; omega, by show 1 ≤ 1; omega, by show 1 ≤ 8; omega, h4, fun _ hh => ?_⟩
  exfalso
  have := note_phase hr [textW (5 + i.toNat) s 0] (fun x hx => by simp only [List.mem_cons, List.not_mem_nil, or_false] at hx; subst hx; show 2 ≤ 5 + i.toNat; omega) (fld d.F 1) 1 (fld d.F 3) (fld d.F 4) (fld d.F 5) (fld d.F 6) (fld d.F 7) (fld d.F 8) (fld d.F 9) (fld d.F 10 + 2 ^ i.toNat)
  rw [show [textW (5 + i.toNat) s 0] ++ [noteW d.F 0 (fld d.F 1) 1 (fld d.F 3) (fld d.F 4) (fld d.F 5) (fld d.F 6) (fld d.F 7) (fld d.F 8) (fld d.F 9) (fld d.F 10 + 2 ^ i.toNat)] = [textW (5 + i.toNat) s 0, noteW d.F 0 (fld d.F 1) 1 (fld d.F 3) (fld d.F 4) (fld d.F 5) (fld d.F 6) (fld d.F 7) (fld d.F 8) (fld d.F 9) (fld d.F 10 + 2 ^ i.toNat)] from rfl] at this
  rw [this] at hh
  omega

/- manifests -/
def manPages (s : ByteArray) : List Wr := [textW 2 s 0, textW 3 s 16, textW 4 s 32]
theorem manPages_in {s : ByteArray} {x : Wr} (h : x ∈ manPages s) : 2 ≤ x.1 ∧ x.1 ≤ 4 := by
  simp only [manPages, List.mem_cons, List.not_mem_nil, or_false] at h
  rcases h with rfl | rfl | rfl
  · show 2 ≤ 2 ∧ 2 ≤ 4; omega
  · show 2 ≤ 3 ∧ 3 ≤ 4; omega
  · show 2 ≤ 4 ∧ 4 ≤ 4; omega
theorem manPages_bytes {s : ByteArray} {x : Wr} (h : x ∈ manPages s) : Bts x := by
  simp only [manPages, List.mem_cons, List.not_mem_nil, or_false] at h
  rcases h with rfl | rfl | rfl <;> exact textW_bytes _ _ _
theorem manPages_at (F : Nat → Nat) (s : ByteArray) {j : Nat} (hj : j < 48) : mf (puts F (manPages s)) j = bz s j := by
  show put (put (put F 2 (fun i => bz s (0 + i)) 16) 3 (fun i => bz s (16 + i)) 16) 4 (fun i => bz s (32 + i)) 16 (32 + j) = _
  by_cases h1 : j < 16
  · rw [put_out (by omega), put_out (by omega), show 32 + j = 16 * 2 + j from by omega, put_in h1, Nat.zero_add]
  · by_cases h2 : j < 32
    · rw [put_out (by omega), show 32 + j = 16 * 3 + (j - 16) from by omega, put_in (by omega)]
      congr 1
      omega
    · rw [show 32 + j = 16 * 4 + (j - 32) from by omega, put_in (by omega)]
      congr 1
      omega
theorem stays_offer {key s : ByteArray} {F : Nat → Nat} {w N : Nat} (hr : RecIs F w N) (hg : Good key F) (hp : fld F 2 = 0) (hm : isManifest key s = true) {tries : Nat} (ht : tries ≤ 3) :
    Stays key F (manPages s ++ [sameW F 0 1 tries]) := by
  intro c t htt
  rw [sameW_is hr]
  have hk := hg.kept
  have hfr : Free F (manPages s) := by
    intro x hx
    have := manPages_in hx
    omega
  refine inv_record hr hg (manPages s) hfr (fun x hx => manPages_bytes hx) (recB_bytes (by omega) (by omega) (by omega) (by omega) (fld_lt hg _) (fld_lt hg _) (fld_lt hg _) (fld_lt hg _) (fld_lt hg _) (fld_lt hg _) (by omega) _)
    (fun hb => good_note hr hg (manPages s) (fun x hx => by have := manPages_in hx; omega) hk (by omega) ht hg.old (fun h => by omega) (fun _ => ?_) hb) c t htt
  obtain ⟨at_, ha, _, _⟩ := man_seal hm
  have hsz := man_size hm
  refine ⟨at_, ?_⟩
  rw [sealOf_same (g := bz s) (fun j hj => manPages_at F s hj)]
  exact sealOf_more ha (by omega)
/-- one record, and then what another list of pages comes to -/
theorem cut_two (F : Nat → Nat) (x : Wr) (l : List Wr) (c t : Nat) : cutAt F (x :: l) c t = if c = 0 then put F x.1 x.2 t else cutAt (put F x.1 x.2 16) l (c - 1) t := by
  cases c with
  | zero => rfl
  | succ c =>
    rw [if_neg (by omega), Nat.add_sub_cancel]
    unfold cutAt
    rw [List.drop_succ_cons, List.take_succ_cons]
    cases l.drop c with
    | nil => rfl
    | cons y r => rfl
theorem stays_two {key : ByteArray} {F : Nat → Nat} {x : Wr} {l : List Wr} (h1 : Stays key F [x]) (h2 : Stays key (put F x.1 x.2 16) l) : Stays key F (x :: l) := by
  intro c t ht
  rw [cut_two]
  by_cases hc : c = 0
  · rw [if_pos hc]
    have := h1 0 t ht
    rw [cut_two, if_pos rfl] at this
    exact this
  · rw [if_neg hc]
    exact h2 (c - 1) t ht
theorem sameW_one {F : Nat → Nat} {w N : Nat} (h : RecIs F w N) (phase tries : Nat) : sameW F 1 phase tries = (w, recB (((N + 1) % 256 + 1) % 256) (fld F 1) phase tries (fld F 4) (fld F 5) (fld F 6) (fld F 7) (fld F 8) (fld F 9) 0) := by
  unfold sameW noteW
  rw [recAt_is h, fld_zero h, if_pos (by omega), show (N + 1 + 1) % 256 = ((N + 1) % 256 + 1) % 256 from by omega]
theorem fine_offers {d : Dev} (h : Inv' d) (s : ByteArray) : Fine d (offers d s) := by
  unfold offers
  by_cases e1 : fld d.F 2 = 2
  · rw [if_pos e1]
    exact fine_fails h 11
  rw [if_neg e1]
  by_cases e2 : isManifest d.key s = false
  · rw [if_pos e2]
    exact fine_fails h 13
  rw [if_neg e2]
  by_cases e3 : bz s 0 * 256 + bz s 1 ≤ keptV d.F ∨ bz s 2 * 256 + bz s 3 ≠ keptV d.F
  · rw [if_pos e3]
    exact fine_fails h 6
  rw [if_neg e3]
  have hm : isManifest d.key s = true := by
    cases hh : isManifest d.key s
    · exact absurd hh e2
    · rfl
  obtain ⟨⟨w, N, hr⟩, hg, h1, h2, h3, h4, h5⟩ := h
  have hph := hg.phase
  have htr := hg.tries
  by_cases e4 : fld d.F 2 = 1
  · rw [if_pos e4, if_pos e4]
    have hs1 := stays_same hr hg (phase := 0) (tries := fld d.F 3) (.inl rfl) htr
    have hw1 := hs1 1 16 (Nat.le_refl _)
    rw [cutAt_all (show [sameW d.F 0 0 (fld d.F 3)].length ≤ 1 from Nat.le_refl _)] at hw1
    obtain ⟨_, hg1⟩ := hw1
    have hall := all_written hr [] (fun x hx => by cases hx) (fld d.F 1) 0 (fld d.F 3) (fld d.F 4) (fld d.F 5) (fld d.F 6) (fld d.F 7) (fld d.F 8) (fld d.F 9) 0
    rw [List.nil_append] at hall
    have eF : puts d.F [sameW d.F 0 0 (fld d.F 3)] = puts d.F [((1 - w, recB ((N + 1) % 256) (fld d.F 1) 0 (fld d.F 3) (fld d.F 4) (fld d.F 5) (fld d.F 6) (fld d.F 7) (fld d.F 8) (fld d.F 9) 0) : Wr)] := by rw [sameW_is hr]
    have hr1 := hall.1
    have hf := hall.2.1
    rw [← eF] at hr1 hf
    have hp1 : fld (puts d.F [sameW d.F 0 0 (fld d.F 3)]) 2 = 0 := hf 2 (by omega)
    have hnote : sameW d.F 1 1 (fld d.F 3) = sameW (puts d.F [sameW d.F 0 0 (fld d.F 3)]) 0 1 (fld d.F 3) := by
      have q1 : fld (puts d.F [sameW d.F 0 0 (fld d.F 3)]) 1 = fld d.F 1 := hf 1 (by omega)
      have q4 : fld (puts d.F [sameW d.F 0 0 (fld d.F 3)]) 4 = fld d.F 4 := hf 4 (by omega)
      have q5 : fld (puts d.F [sameW d.F 0 0 (fld d.F 3)]) 5 = fld d.F 5 := hf 5 (by omega)
      have q6 : fld (puts d.F [sameW d.F 0 0 (fld d.F 3)]) 6 = fld d.F 6 := hf 6 (by omega)
      have q7 : fld (puts d.F [sameW d.F 0 0 (fld d.F 3)]) 7 = fld d.F 7 := hf 7 (by omega)
      have q8 : fld (puts d.F [sameW d.F 0 0 (fld d.F 3)]) 8 = fld d.F 8 := hf 8 (by omega)
      have q9 : fld (puts d.F [sameW d.F 0 0 (fld d.F 3)]) 9 = fld d.F 9 := hf 9 (by omega)
      have hw := hr.1
      rw [sameW_one hr, sameW_is hr1, q1, q4, q5, q6, q7, q8, q9, show 1 - (1 - w) = w from by omega]
    have hst : Stays d.key (puts d.F [sameW d.F 0 0 (fld d.F 3)]) (manPages s ++ [sameW d.F 1 1 (fld d.F 3)]) := by
      rw [hnote]
      exact stays_offer hr1 hg1 hp1 hm htr
    refine ⟨?_, by show 0 ≤ _; omega, by show 1 ≤ 1; omega, by show 1 ≤ 8; omega, h4, fun _ hh => ?_⟩
    · exact stays_two hs1 hst
    · exfalso
      have e5 : fld (puts (puts d.F [sameW d.F 0 0 (fld d.F 3)]) (manPages s ++ [sameW d.F 1 1 (fld d.F 3)])) 2 = 1 := by
        rw [hnote]
        exact note_phase hr1 (manPages s) (fun x hx => (manPages_in hx).1) ..
      have e6 : puts d.F ([sameW d.F 0 0 (fld d.F 3)] ++ [textW 2 s 0, textW 3 s 16, textW 4 s 32] ++ [sameW d.F 1 1 (fld d.F 3)]) = puts (puts d.F [sameW d.F 0 0 (fld d.F 3)]) (manPages s ++ [sameW d.F 1 1 (fld d.F 3)]) := rfl
      rw [e6, e5] at hh
      omega
  · rw [if_neg e4, if_neg e4]
    have hp : fld d.F 2 = 0 := by omega
    refine ⟨stays_offer hr hg hp hm htr, by show 0 ≤ _; omega, by show 1 ≤ 1; omega, by show 1 ≤ 8; omega, h4, fun _ hh => ?_⟩
    exfalso
    have e5 : fld (puts d.F (manPages s ++ [sameW d.F 0 1 (fld d.F 3)])) 2 = 1 := note_phase hr (manPages s) (fun x hx => (manPages_in hx).1) ..
    have e6 : puts d.F ([] ++ [textW 2 s 0, textW 3 s 16, textW 4 s 32] ++ [sameW d.F 0 1 (fld d.F 3)]) = puts d.F (manPages s ++ [sameW d.F 0 1 (fld d.F 3)]) := rfl
    rw [e6, e5] at hh
    omega

/- installations -/
theorem slotW_in {slot : Nat} {s : ByteArray} (hs : s.size ≤ 96) {x : Wr} (h : x ∈ slotW slot s) : 11 + 6 * slot ≤ x.1 ∧ x.1 < 17 + 6 * slot := by
  simp only [slotW, List.mem_map, List.mem_range] at h
  obtain ⟨i, hi, rfl⟩ := h
  have := chunks_le hs
  show 11 + 6 * slot ≤ 11 + 6 * slot + i ∧ 11 + 6 * slot + i < 17 + 6 * slot
  omega
theorem slotW_bytes {slot : Nat} {s : ByteArray} {x : Wr} (h : x ∈ slotW slot s) : Bts x := by
  simp only [slotW, List.mem_map, List.mem_range] at h
  obtain ⟨i, _, rfl⟩ := h
  exact textW_bytes _ _ _
theorem slotTo_at (F : Nat → Nat) (slot : Nat) (s : ByteArray) (k : Nat) {j : Nat} (hj : j < 16 * k) : puts F ((List.range k).map fun i => textW (11 + 6 * slot + i) s (16 * i)) (16 * (11 + 6 * slot) + j) = bz s j := by
  induction k with
  | zero => omega
  | succ k ih =>
    rw [List.range_succ, List.map_append, puts_append]
    show put (puts F _) (11 + 6 * slot + k) (fun i => bz s (16 * k + i)) 16 _ = _
    by_cases h : j < 16 * k
    · rw [put_out (by omega)]
      exact ih h
    · rw [show 16 * (11 + 6 * slot) + j = 16 * (11 + 6 * slot + k) + (j - 16 * k) from by omega, put_in (by omega)]
      congr 1
      omega
theorem slotW_at (F : Nat → Nat) (slot : Nat) (s : ByteArray) {j : Nat} (hj : j < s.size) : puts F (slotW slot s) (16 * (11 + 6 * slot) + j) = bz s j :=
  slotTo_at F slot s _ (by unfold chunksN; omega)
theorem built_ok {F : Nat → Nat} (h : (builtN F).1 = 0) : isImage (builtN F).2 = true ∧ (builtN F).2 = patchTxt (imgOf F (fld F 1)) (mk (mf F 4) fun j => F (80 + j)) (mf F 5) := by
  unfold builtN at *
  simp only at *
  split at h
  · cases h
  · rename_i h1
    rw [if_neg h1]
    split at h
    · cases h
    · rename_i h2
      rw [if_neg h2]
      split at h
      · cases h
      · rename_i h3
        rw [if_neg h3]
        split at h
        · cases h
        · rename_i h4
          rw [if_neg h4]
          refine ⟨?_, rfl⟩
          cases hh : isImage (patchTxt (imgOf F (fld F 1)) (mk (mf F 4) fun j => F (80 + j)) (mf F 5))
          · exact absurd hh h3
          · rfl
theorem image_size {s : ByteArray} (h : isImage s = true) : s.size ≤ 80 ∧ 1 ≤ s.size := by
  obtain ⟨_, _, _, h3, h4, h5, h6⟩ := headOk_eq (by unfold isImage at h; simp only [Bool.and_eq_true] at h; exact h.1)
  omega
/-- an image in the slot that is not kept, and a record by which it is on trial -/
theorem stays_install {key s : ByteArray} {F : Nat → Nat} {w N : Nat} (hr : RecIs F w N) (hg : Good key F) (hp : fld F 2 = 1) (hi : isImage s = true) {l0 l1 a b c d : Nat} (ha : a < 256) (hb : b < 256) (hc : c < 256) (hd : d < 256)
    (hl : fld F 1 = 0 ∧ l0 = fld F 4 ∧ l1 = s.size ∨ fld F 1 = 1 ∧ l0 = s.size ∧ l1 = fld F 5) :
    Stays key F (slotW (1 - fld F 1) s ++ [noteW F 0 (fld F 1) 2 3 l0 l1 a b c d 0]) := by
  intro k t htt
  rw [noteW_is hr]
  have hk := hg.kept
  have hsz := image_size hi
  have h4 := hg.len0
  have h5 := hg.len1
  have hin := fun x (hx : x ∈ slotW (1 - fld F 1) s) => slotW_in (by omega) hx
  have hfr : Free F (slotW (1 - fld F 1) s) := by
    intro x hx
    have := hin x hx
    omega
  refine inv_record hr hg (slotW (1 - fld F 1) s) hfr (fun x hx => slotW_bytes hx) (recB_bytes (by omega) (by omega) (by omega) (by omega) (by omega) (by omega) ha hb hc hd (by omega) _) (fun hby => ?_) k t htt
  obtain ⟨_, e, hout⟩ := all_written hr (slotW (1 - fld F 1) s) (fun x hx => (hfr x hx).1) (fld F 1) 2 3 l0 l1 a b c d 0
  have f1 : fld (puts F (slotW (1 - fld F 1) s ++ [(1 - w, recB ((N + 1) % 256) (fld F 1) 2 3 l0 l1 a b c d 0)])) 1 = fld F 1 := e 1 (by omega)
  have f2 : fld (puts F (slotW (1 - fld F 1) s ++ [(1 - w, recB ((N + 1) % 256) (fld F 1) 2 3 l0 l1 a b c d 0)])) 2 = 2 := e 2 (by omega)
  have f3 : fld (puts F (slotW (1 - fld F 1) s ++ [(1 - w, recB ((N + 1) % 256) (fld F 1) 2 3 l0 l1 a b c d 0)])) 3 = 3 := e 3 (by omega)
  have f4 : fld (puts F (slotW (1 - fld F 1) s ++ [(1 - w, recB ((N + 1) % 256) (fld F 1) 2 3 l0 l1 a b c d 0)])) 4 = l0 := e 4 (by omega)
  have f5 : fld (puts F (slotW (1 - fld F 1) s ++ [(1 - w, recB ((N + 1) % 256) (fld F 1) 2 3 l0 l1 a b c d 0)])) 5 = l1 := e 5 (by omega)
  have hold : imgOf (puts F (slotW (1 - fld F 1) s ++ [(1 - w, recB ((N + 1) % 256) (fld F 1) 2 3 l0 l1 a b c d 0)])) (fld F 1) = imgOf F (fld F 1) := by
    refine imgOf_same ?_ ?_ fun j hj => ?_
    · rcases hl with ⟨q, q0, _⟩ | ⟨q, _, q1⟩
      · rw [q]; rw [q] at f4; exact f4.trans q0
      · rw [q]; rw [q] at f5; exact f5.trans q1
    · rcases hl with ⟨q, _⟩ | ⟨q, _⟩
      · rw [q]; exact h4
      · rw [q]; exact h5
    · rw [hout _ (by omega)]
      exact puts_out fun x hx => by have := hin x hx; omega
  have hnew : imgOf (puts F (slotW (1 - fld F 1) s ++ [(1 - w, recB ((N + 1) % 256) (fld F 1) 2 3 l0 l1 a b c d 0)])) (1 - fld F 1) = s := by
    have hlen : fld (puts F (slotW (1 - fld F 1) s ++ [(1 - w, recB ((N + 1) % 256) (fld F 1) 2 3 l0 l1 a b c d 0)])) (4 + (1 - fld F 1)) = s.size := by
      rcases hl with ⟨q, _, q1⟩ | ⟨q, q0, _⟩
      · rw [show 4 + (1 - fld F 1) = 5 from by omega, f5]; exact q1
      · rw [show 4 + (1 - fld F 1) = 4 from by omega, f4]; exact q0
    unfold imgOf
    rw [hlen]
    refine Eq.trans (mk_congr fun j hj => ?_) (self_mk s).symm
    rw [hout _ (by omega)]
    exact slotW_at F _ s hj
  refine ⟨hby, by rw [f1]; exact hk, by rw [f2]; omega, by rw [f3]; omega, by rw [f4]; omega, by rw [f5]; omega, ?_, ?_, ?_⟩
  · rw [f1, hold]; exact hg.old
  · intro _; rw [f1, hnew]; exact hi
  · rw [f2]; intro h; omega
theorem fine_installs {d : Dev} (h : Inv' d) (hp : fld d.F 2 = 1) : Fine d (installs d) := by
  obtain ⟨⟨w, N, hr⟩, hg, h1, h2, h3, h4, h5⟩ := h
  unfold installs
  by_cases e : (builtN d.F).1 ≠ 0
  · rw [if_pos e]
    refine ⟨stays_same hr hg (.inl rfl) hg.tries, h1, h2, h3, h4, fun _ hh => ?_⟩
    exfalso
    rw [same_phase hr] at hh
    omega
  · rw [if_neg e]
    have hb := (built_ok (F := d.F) (by omega)).1
    have hk := hg.kept
    refine ⟨?_, h1, h2, h3, by show 0 ≤ _; omega, fun _ _ => by show 0 ≤ _; omega⟩
    show Stays d.key d.F (slotW (1 - fld d.F 1) (builtN d.F).2 ++ [_])
    by_cases hs : 1 - fld d.F 1 = 0
    · rw [if_pos hs]
      have e1 : fld d.F 1 = 1 := by omega
      have := stays_install hr hg hp hb (l0 := (builtN d.F).2.size) (l1 := fld d.F 5) (a := mf d.F 0) (b := mf d.F 1) (c := fld d.F 8) (d := fld d.F 9) (hg.bytes _) (hg.bytes _) (fld_lt hg _) (fld_lt hg _) (.inr ⟨e1, rfl, rfl⟩)
      rw [e1] at this ⊢
      exact this
    · rw [if_neg hs]
      have e1 : fld d.F 1 = 0 := by omega
      have := stays_install hr hg hp hb (l0 := fld d.F 4) (l1 := (builtN d.F).2.size) (a := fld d.F 6) (b := fld d.F 7) (c := mf d.F 0) (d := mf d.F 1) (fld_lt hg _) (fld_lt hg _) (hg.bytes _) (hg.bytes _) (.inl ⟨e1, rfl, rfl⟩)
      rw [e1] at this ⊢
      exact this
theorem fine_ticks {d : Dev} (h : Inv' d) (hon : d.on = true) : Fine d (ticks d) := by
  have h0 := h
  obtain ⟨⟨w, N, hr⟩, hg, h1, h2, h3, h4, h5⟩ := h
  unfold ticks
  by_cases e2 : fld d.F 2 = 2
  · rw [if_pos e2]
    have ha := h5 hon e2
    by_cases ea : 5 ≤ d.age + 1
    · rw [if_pos ea]
      refine ⟨stays_same hr hg (.inl rfl) (by omega), h1, h2, h3, by show d.age + 1 ≤ 5; omega, fun _ hh => ?_⟩
      exfalso
      rw [same_phase hr] at hh
      omega
    · rw [if_neg ea]
      exact ⟨stays_nil hr hg, h1, h2, h3, by show d.age + 1 ≤ 5; omega, fun _ _ => by show d.age + 1 ≤ 4; omega⟩
  rw [if_neg e2]
  by_cases e1 : fld d.F 2 = 1
  · rw [if_pos e1]
    cases missing d.F with
    | nil => exact fine_installs h0 e1
    | cons i l =>
      show Fine d (if d.wait ≤ 1 then _ else _)
      split
      · exact ⟨stays_nil hr hg, h3, by show 1 ≤ min 8 (2 * d.next); omega, by show min 8 (2 * d.next) ≤ 8; omega, h4, h5⟩
      · exact ⟨stays_nil hr hg, by show d.wait - 1 ≤ 8; omega, h2, h3, h4, h5⟩
  · rw [if_neg e1]
    exact fine_idle h0
theorem fine_planned {d : Dev} (h : Inv' d) (e : Ev) : Fine d (planned d e) := by
  unfold planned
  split
  · exact fine_fails h 7
  · split
    · exact fine_fails h 9
    · split
      · exact fine_fails h 8
      · rename_i hk _ hoff
        split
        · exact fine_off h
        · split
          · exact fine_boots h
          · rename_i _ hne2
            have hon : d.on = true := by
              cases ho : d.on
              · exact absurd ⟨hne2, ho⟩ hoff
              · rfl
            split
            · exact fine_ticks h hon
            · split
              · exact fine_infers h _
              · split
                · exact fine_offers h _
                · split
                  · exact fine_takes h _ _
                  · exact fine_confirms h
/-- whatever happens to a device, wherever the power fails: it stays as it should be -/
theorem inv_do {d : Dev} (h : Inv' d) (e : Ev) : Inv' (doM d e).1 := by
  obtain ⟨hst, p1, p2, p3, p4, p5⟩ := fine_planned h e
  unfold doM
  split
  · obtain ⟨q1, q2⟩ := hst e.cut.toNat (tornN e.torn) (tornN_le _)
    exact ⟨q1, q2, h.2.2.1, h.2.2.2.1, h.2.2.2.2.1, h.2.2.2.2.2.1, fun hh => by cases hh⟩
  · obtain ⟨q1, q2⟩ := hst (planned d e).ws.length 16 (Nat.le_refl _)
    rw [cutAt_all (Nat.le_refl _)] at q1 q2
    exact ⟨q1, q2, p1, p2, p3, p4, p5⟩
end Go.Proofs.YtjfmiomopfjecabGreat.M

/- A change of images: what stands in a device's flash while it comes over, wherever the power fails. -/
namespace Go.Proofs.YtjfmiomopfjecabGreat.M

structure Job where
  key : ByteArray
  old : ByteArray
  now : ByteArray
  base : Nat
  up : Nat
  patch : ByteArray
  man : ByteArray
def chunkT (j : Job) (i : Nat) : ByteArray := mk (chunkLen j.patch.size i) fun k => bz j.patch (16 * i + k)
structure JobOk (j : Job) : Prop where
  old : isImage j.old = true
  now : isImage j.now = true
  less : j.base < j.up
  top : j.up ≤ 65535
  least : 1 ≤ j.patch.size
  most : j.patch.size ≤ 96
  gives : patchRes j.old j.patch j.now.size = some j.now
  man : isManifest j.key j.man = true
  m0 : bz j.man 0 * 256 + bz j.man 1 = j.up
  m2 : bz j.man 2 * 256 + bz j.man 3 = j.base
  m4 : bz j.man 4 = j.patch.size
  m5 : bz j.man 5 = j.now.size
  m6 : bz j.man 6 * 256 + bz j.man 7 = crc j.now.data.toList
  chunk : ∀ i, i < chunksN j.patch.size → bz j.man (8 + 2 * i) * 256 + bz j.man (9 + 2 * i) = crc (chunkT j i).data.toList
  ex : bz j.man (8 + 2 * chunksN j.patch.size) = 1 →
    evalNum j.now (mk (bz j.man (8 + 2 * chunksN j.patch.size + 1)) fun k => bz j.man (8 + 2 * chunksN j.patch.size + 3 + k)) = 0 ∧
    evalTxt j.now (mk (bz j.man (8 + 2 * chunksN j.patch.size + 1)) fun k => bz j.man (8 + 2 * chunksN j.patch.size + 3 + k)) = mk (bz j.man (8 + 2 * chunksN j.patch.size + 2)) fun k => bz j.man (8 + 2 * chunksN j.patch.size + 3 + bz j.man (8 + 2 * chunksN j.patch.size + 1) + k)
/-- chunk i is there, by the record -/
def there (F : Nat → Nat) (i : Nat) : Prop := fld F 10 / 2 ^ i % 2 = 1
/-- the flash of a device that a change comes over to -/
structure Sj (j : Job) (F : Nat → Nat) : Prop where
  kept : (imgOf F (fld F 1) = j.old ∧ verOf F (fld F 1) = j.base) ∨ (imgOf F (fld F 1) = j.now ∧ verOf F (fld F 1) = j.up)
  trial : fld F 2 = 2 → imgOf F (fld F 1) = j.old ∧ verOf F (fld F 1) = j.base ∧ imgOf F (1 - fld F 1) = j.now ∧ verOf F (1 - fld F 1) = j.up
  fetch : fld F 2 = 1 → imgOf F (fld F 1) = j.old ∧ verOf F (fld F 1) = j.base ∧ (∀ i, i < 48 → mf F i = bz j.man i) ∧
    ∀ i, i < chunksN j.patch.size → there F i → ∀ k, k < chunkLen j.patch.size i → F (80 + 16 * i + k) = bz j.patch (16 * i + k)
theorem verOf_same {F F' : Nat → Nat} (h : ∀ i, i < 16 → fld F' i = fld F i) {slot : Nat} (hs : slot ≤ 1) : verOf F' slot = verOf F slot := by
  unfold verOf
  rw [h _ (by omega), h _ (by omega)]
theorem imgOf_keeps {key : ByteArray} {F F' : Nat → Nat} {w N : Nat} {os : List Wr} (hg : Good key F) (hk : Keeps F F' w N os) {slot : Nat} (hs : slot ≤ 1) (hx : ∀ x ∈ os, x.1 < 11 + 6 * slot ∨ 17 + 6 * slot ≤ x.1) : imgOf F' slot = imgOf F slot := by
  have hc : slot = 0 ∨ slot = 1 := by omega
  refine imgOf_same (hk.2.1 _ (by omega)) ?_ fun j hj => hk.2.2 _ (by omega) fun x hxo => ?_
  · rcases hc with rfl | rfl
    · exact hg.len0
    · exact hg.len1
  · have := hx x hxo
    omega
/-- nothing is lost where the record is what it was -/
theorem sj_keeps {j : Job} {key : ByteArray} {F F' : Nat → Nat} {w N : Nat} {os : List Wr} (h : Sj j F) (hg : Good key F) (hk : Keeps F F' w N os) (hf : Free F os)
    (hc : fld F 2 = 1 → ∀ i, i < chunksN j.patch.size → there F i → ∀ x ∈ os, x.1 ≠ 5 + i) : Sj j F' := by
  have e := hk.2.1
  have hk1 := hg.kept
  have e1 := e 1 (by omega)
  have e2 := e 2 (by omega)
  have iold := imgOf_keeps hg hk hk1 (fun x hx => (hf x hx).2.2.1)
  have vold := verOf_same e hk1
  refine ⟨?_, ?_, ?_⟩
  · rw [e1, iold, vold]; exact h.kept
  · rw [e1, e2]
    intro h2
    rw [iold, vold, imgOf_keeps hg hk (slot := 1 - fld F 1) (by omega) (fun x hx => by have := (hf x hx).2.2.2.2 h2; omega), verOf_same e (by omega)]
    exact h.trial h2
  · rw [e1, e2]
    intro h2
    obtain ⟨a1, a2, a3, a4⟩ := h.fetch h2
    rw [iold, vold]
    refine ⟨a1, a2, fun i hi => ?_, fun i hi ht k hkk => ?_⟩
    · rw [← a3 i hi]
      exact hk.2.2 _ (by omega) fun x hx => by have := (hf x hx).2.2.2.1 h2; omega
    · have ht' : there F i := by unfold there at *; rw [e 10 (by omega)] at ht; exact ht
      rw [← a4 i hi ht' k hkk]
      have hlen : chunkLen j.patch.size i ≤ 16 := Nat.min_le_left _ _
      exact hk.2.2 _ (by omega) fun x hx => by have := hc h2 i hi ht' x hx; omega
/-- a record alone, which leaves lengths and versions -/
theorem sj_note {j : Job} {key : ByteArray} {F : Nat → Nat} {w N : Nat} (hr : RecIs F w N) (hg : Good key F) {kept phase tries th : Nat} (os : List Wr) (ho : ∀ x ∈ os, 2 ≤ x.1 ∧ x.1 ≤ 10) (hk : kept ≤ 1)
    (hkept : (imgOf F kept = j.old ∧ verOf F kept = j.base) ∨ (imgOf F kept = j.now ∧ verOf F kept = j.up))
    (htrial : phase = 2 → imgOf F kept = j.old ∧ verOf F kept = j.base ∧ imgOf F (1 - kept) = j.now ∧ verOf F (1 - kept) = j.up)
    (hfetch : phase = 1 → imgOf F kept = j.old ∧ verOf F kept = j.base ∧ (∀ i, i < 48 → mf (puts F os) i = bz j.man i) ∧
      ∀ i, i < chunksN j.patch.size → th / 2 ^ i % 2 = 1 → ∀ k, k < chunkLen j.patch.size i → puts F os (80 + 16 * i + k) = bz j.patch (16 * i + k)) :
    Sj j (puts F (os ++ [noteW F 0 kept phase tries (fld F 4) (fld F 5) (fld F 6) (fld F 7) (fld F 8) (fld F 9) th])) := by
  rw [noteW_is hr]
  obtain ⟨_, e, hout⟩ := all_written hr os (fun x hx => (ho x hx).1) kept phase tries (fld F 4) (fld F 5) (fld F 6) (fld F 7) (fld F 8) (fld F 9) th
  generalize hG : puts F (os ++ [(1 - w, recB ((N + 1) % 256) kept phase tries (fld F 4) (fld F 5) (fld F 6) (fld F 7) (fld F 8) (fld F 9) th)]) = G at *
  have f1 : fld G 1 = kept := e 1 (by omega)
  have f2 : fld G 2 = phase := e 2 (by omega)
  have f4 : fld G 4 = fld F 4 := e 4 (by omega)
  have f5 : fld G 5 = fld F 5 := e 5 (by omega)
  have f6 : fld G 6 = fld F 6 := e 6 (by omega)
  have f7 : fld G 7 = fld F 7 := e 7 (by omega)
  have f8 : fld G 8 = fld F 8 := e 8 (by omega)
  have f9 : fld G 9 = fld F 9 := e 9 (by omega)
  have f10 : fld G 10 = th := e 10 (by omega)
  have himg : ∀ slot, slot ≤ 1 → imgOf G slot = imgOf F slot := by
    intro slot hs
    have hc : slot = 0 ∨ slot = 1 := by omega
    refine imgOf_same ?_ ?_ fun i hi => ?_
    · rcases hc with rfl | rfl
      · exact f4
      · exact f5
    · rcases hc with rfl | rfl
      · exact hg.len0
      · exact hg.len1
    · rw [hout _ (by omega)]
      exact puts_out fun x hx => by have := ho x hx; omega
  have hver : ∀ slot, slot ≤ 1 → verOf G slot = verOf F slot := by
    intro slot hs
    have hc : slot = 0 ∨ slot = 1 := by omega
    rcases hc with rfl | rfl
    · show 256 * fld G 6 + fld G 7 = 256 * fld F 6 + fld F 7
      rw [f6, f7]
    · show 256 * fld G 8 + fld G 9 = 256 * fld F 8 + fld F 9
      rw [f8, f9]
  refine ⟨?_, ?_, ?_⟩
  · rw [f1, himg _ hk, hver _ hk]; exact hkept
  · rw [f1, f2, himg _ hk, hver _ hk, himg _ (by omega), hver _ (by omega)]; exact htrial
  · rw [f1, f2, himg _ hk, hver _ hk]
    intro h2
    obtain ⟨a1, a2, a3, a4⟩ := hfetch h2
    refine ⟨a1, a2, fun i hi => ?_, fun i hi ht k hkk => ?_⟩
    · rw [← a3 i hi]
      exact hout _ (by omega)
    · unfold there at ht
      rw [f10] at ht
      rw [← a4 i hi ht k hkk]
      exact hout _ (by omega)
end Go.Proofs.YtjfmiomopfjecabGreat.M

/- Every event of a change leaves its device so that the change can go on, wherever the power fails. -/
namespace Go.Proofs.YtjfmiomopfjecabGreat.M

def SStays (j : Job) (F : Nat → Nat) (l : List Wr) : Prop := ∀ c t, t ≤ 16 → Sj j (cutAt F l c t)
theorem ss_nil {j : Job} {F : Nat → Nat} (h : Sj j F) : SStays j F [] := by
  intro c t _
  rw [cutAt_all (Nat.zero_le _)]
  exact h
theorem ss_record {j : Job} {key : ByteArray} {F : Nat → Nat} {w N : Nat} (hr : RecIs F w N) (hg : Good key F) (h : Sj j F) (os : List Wr) (hf : Free F os)
    (hc : fld F 2 = 1 → ∀ i, i < chunksN j.patch.size → there F i → ∀ x ∈ os, x.1 ≠ 5 + i) {kept phase tries l0 l1 a b c d th : Nat}
    (hnew : Sj j (puts F (os ++ [noteW F 0 kept phase tries l0 l1 a b c d th]))) : SStays j F (os ++ [noteW F 0 kept phase tries l0 l1 a b c d th]) := by
  intro k t ht
  rw [noteW_is hr] at hnew ⊢
  rcases cut_cases hr os (fun x hx => (hf x hx).1) kept phase tries l0 l1 a b c d th k t ht with e | e
  · rw [e]; exact hnew
  · exact sj_keeps h hg e hf hc
theorem ss_note {j : Job} {key : ByteArray} {F : Nat → Nat} {w N : Nat} (hr : RecIs F w N) (hg : Good key F) (h : Sj j F) {kept phase tries : Nat} (hk : kept ≤ 1) (hp : phase ≠ 1)
    (hkept : (imgOf F kept = j.old ∧ verOf F kept = j.base) ∨ (imgOf F kept = j.now ∧ verOf F kept = j.up))
    (htrial : phase = 2 → imgOf F kept = j.old ∧ verOf F kept = j.base ∧ imgOf F (1 - kept) = j.now ∧ verOf F (1 - kept) = j.up) :
    SStays j F [noteW F 0 kept phase tries (fld F 4) (fld F 5) (fld F 6) (fld F 7) (fld F 8) (fld F 9) 0] :=
  ss_record hr hg h [] (free_nil F) (fun _ i _ _ x hx => by cases hx) (sj_note hr hg [] (fun x hx => by cases hx) hk hkept htrial (fun h1 => absurd h1 hp))
theorem ss_same {j : Job} {key : ByteArray} {F : Nat → Nat} {w N : Nat} (hr : RecIs F w N) (hg : Good key F) (h : Sj j F) {phase tries : Nat} (hp : phase = 0 ∨ phase = 2 ∧ fld F 2 = 2) : SStays j F [sameW F 0 phase tries] :=
  ss_note hr hg h hg.kept (by omega) h.kept (fun h2 => h.trial (by omega))
/- what is put together out of the chunks -/
theorem seal_ex {g : Nat → Nat} {L at_ : Nat} (h : sealOf g L = some at_) (h1 : g (8 + 2 * chunksN (g 4)) = 1) : g (9 + 2 * chunksN (g 4)) ≤ 8 ∧ g (10 + 2 * chunksN (g 4)) ≤ 8 := by
  unfold sealOf at h
  by_cases e1 : L ≤ 5 ∨ g 4 < 1 ∨ 96 < g 4 ∨ g 5 < 1 ∨ 96 < g 5
  · rw [if_pos e1] at h; cases h
  rw [if_neg e1] at h
  by_cases e2 : L ≤ 8 + 2 * chunksN (g 4)
  · rw [if_pos e2] at h; cases h
  rw [if_neg e2, if_neg (by omega), if_pos h1] at h
  by_cases e5 : L ≤ 8 + 2 * chunksN (g 4) + 2 ∨ 8 < g (9 + 2 * chunksN (g 4)) ∨ 8 < g (10 + 2 * chunksN (g 4))
  · rw [if_pos e5] at h; cases h
  · omega
theorem missing_none {F : Nat → Nat} (h : missing F = []) : ∀ i, i < chunksN (mf F 4) → there F i := by
  intro i hi
  unfold missing at h
  rw [List.filter_eq_nil_iff] at h
  have := h i (List.mem_range.2 hi)
  unfold there
  simp only [decide_eq_true_eq] at this
  omega
theorem patch_there {j : Job} (hj : JobOk j) {F : Nat → Nat} (hch : ∀ i, i < chunksN j.patch.size → there F i → ∀ k, k < chunkLen j.patch.size i → F (80 + 16 * i + k) = bz j.patch (16 * i + k)) (hall : ∀ i, i < chunksN j.patch.size → there F i) :
    (mk j.patch.size fun k => F (80 + k)) = j.patch := by
  refine Eq.trans (mk_congr fun k hk => ?_) (self_mk j.patch).symm
  have hm := hj.most
  have hi : k / 16 < chunksN j.patch.size := by unfold chunksN; omega
  have hl : k % 16 < chunkLen j.patch.size (k / 16) := by unfold chunkLen; omega
  have := hch (k / 16) hi (hall _ hi) (k % 16) hl
  rw [show 80 + 16 * (k / 16) + k % 16 = 80 + k from by omega, show 16 * (k / 16) + k % 16 = k from by omega] at this
  exact this
theorem built_job {j : Job} (hj : JobOk j) {F : Nat → Nat} (h : Sj j F) (hp : fld F 2 = 1) (hm : missing F = []) : builtN F = (0, j.now) := by
  obtain ⟨a1, a2, a3, a4⟩ := h.fetch hp
  have q4 : mf F 4 = j.patch.size := (a3 4 (by omega)).trans hj.m4
  have q5 : mf F 5 = j.now.size := (a3 5 (by omega)).trans hj.m5
  have hall : ∀ i, i < chunksN j.patch.size → there F i := by rw [← q4]; exact missing_none hm
  have hpt := patch_there hj a4 hall
  have hc : chunksN j.patch.size ≤ 6 := chunks_le hj.most
  have p1 : patchTxt j.old j.patch j.now.size = j.now := by unfold patchTxt; rw [hj.gives]; rfl
  have p2 : patchNum j.old j.patch j.now.size = 0 := by unfold patchNum; rw [hj.gives]; rfl
  have q67 : mf F 6 * 256 + mf F 7 = crc j.now.data.toList := by rw [a3 6 (by omega), a3 7 (by omega)]; exact hj.m6
  unfold builtN
  simp only
  rw [a1, q4, q5, hpt, p1, p2, if_neg (by omega), if_neg (by rw [q67]; exact fun hh => hh rfl), if_neg (by rw [hj.now]; decide), if_neg]
  rintro ⟨h1, h2⟩
  rw [a3 _ (by omega)] at h1
  obtain ⟨at_, ha, _, _⟩ := man_seal hj.man
  have hx := seal_ex ha (by rw [hj.m4]; exact h1)
  rw [hj.m4] at hx
  obtain ⟨x1, x2⟩ := hj.ex h1
  have r1 : mf F (8 + 2 * chunksN j.patch.size + 1) = bz j.man (8 + 2 * chunksN j.patch.size + 1) := a3 _ (by omega)
  have r2 : mf F (8 + 2 * chunksN j.patch.size + 2) = bz j.man (8 + 2 * chunksN j.patch.size + 2) := a3 _ (by omega)
  have s1 : 8 + 2 * chunksN j.patch.size + 1 = 9 + 2 * chunksN j.patch.size := by omega
  have s2 : 8 + 2 * chunksN j.patch.size + 2 = 10 + 2 * chunksN j.patch.size := by omega
  have m1 : (mk (bz j.man (8 + 2 * chunksN j.patch.size + 1)) fun k => mf F (8 + 2 * chunksN j.patch.size + 3 + k)) = mk (bz j.man (8 + 2 * chunksN j.patch.size + 1)) fun k => bz j.man (8 + 2 * chunksN j.patch.size + 3 + k) :=
    mk_congr fun k hk => a3 _ (by rw [s1] at hk; omega)
  have m2 : (mk (bz j.man (8 + 2 * chunksN j.patch.size + 2)) fun k => mf F (8 + 2 * chunksN j.patch.size + 3 + bz j.man (8 + 2 * chunksN j.patch.size + 1) + k)) = mk (bz j.man (8 + 2 * chunksN j.patch.size + 2)) fun k => bz j.man (8 + 2 * chunksN j.patch.size + 3 + bz j.man (8 + 2 * chunksN j.patch.size + 1) + k) :=
    mk_congr fun k hk => a3 _ (by rw [s2] at hk; rw [s1]; omega)
  rw [r1, r2, m1, m2] at h2
  rcases h2 with h2 | h2
  · exact h2 x1
  · exact h2 x2
theorem bit_set {x i k : Nat} (hi : i < 6) (hk : k < 6) (h : x / 2 ^ i % 2 ≠ 1) (h2 : (x + 2 ^ i) / 2 ^ k % 2 = 1) (hne : k ≠ i) : x / 2 ^ k % 2 = 1 := by
  have hc : i = 0 ∨ i = 1 ∨ i = 2 ∨ i = 3 ∨ i = 4 ∨ i = 5 := by omega
  have hd : k = 0 ∨ k = 1 ∨ k = 2 ∨ k = 3 ∨ k = 4 ∨ k = 5 := by omega
  rcases hc with rfl | rfl | rfl | rfl | rfl | rfl <;> rcases hd with rfl | rfl | rfl | rfl | rfl | rfl <;> simp only [Nat.reducePow, Nat.div_one] at * <;> omega
end Go.Proofs.YtjfmiomopfjecabGreat.M

/- Every event of a change: chunks, the manifest, the installation, the confirmation. -/
namespace Go.Proofs.YtjfmiomopfjecabGreat.M

theorem chunk_size (j : Job) (i : Nat) : (chunkT j i).size = chunkLen j.patch.size i := mk_size _ _
theorem chunk_bz {j : Job} {i k : Nat} (hk : k < chunkLen j.patch.size i) : bz (chunkT j i) k = bz j.patch (16 * i + k) := bz_mk (fun _ _ => bz_lt _ _) hk
theorem ss_take {j : Job} (hj : JobOk j) {key : ByteArray} {F : Nat → Nat} {w N : Nat} (hr : RecIs F w N) (hg : Good key F) (h : Sj j F) (hp : fld F 2 = 1) {i : Nat} (hi : i < chunksN j.patch.size) (hno : fld F 10 / 2 ^ i % 2 ≠ 1) :
    SStays j F ([textW (5 + i) (chunkT j i) 0] ++ [noteW F 0 (fld F 1) 1 (fld F 3) (fld F 4) (fld F 5) (fld F 6) (fld F 7) (fld F 8) (fld F 9) (fld F 10 + 2 ^ i)]) := by
  have hk := hg.kept
  have hc : chunksN j.patch.size ≤ 6 := chunks_le hj.most
  obtain ⟨a1, a2, a3, a4⟩ := h.fetch hp
  have hin : ∀ x ∈ [textW (5 + i) (chunkT j i) 0], x = textW (5 + i) (chunkT j i) 0 := by
    intro x hx
    simpa using hx
  have hfr : Free F [textW (5 + i) (chunkT j i) 0] := by
    intro x hx
    rw [hin x hx]
    show 2 ≤ 5 + i ∧ 5 + i ≤ 22 ∧ (5 + i < 11 + 6 * fld F 1 ∨ 17 + 6 * fld F 1 ≤ 5 + i) ∧ (fld F 2 = 1 → 5 ≤ 5 + i) ∧ (fld F 2 = 2 → 5 + i ≤ 10)
    omega
  refine ss_record hr hg h _ hfr (fun _ k hk2 ht x hx => ?_) (sj_note hr hg _ (fun x hx => ?_) hk (.inl ⟨a1, a2⟩) (fun h2 => by omega) (fun _ => ⟨a1, a2, fun k hk2 => ?_, fun k hk2 ht m hm => ?_⟩))
  · rw [hin x hx]
    show 5 + i ≠ 5 + k
    intro he
    have : k = i := by omega
    subst this
    exact hno ht
  · rw [hin x hx]
    show 2 ≤ 5 + i ∧ 5 + i ≤ 10
    omega
  · rw [← a3 k hk2]
    refine puts_out fun x hx => ?_
    rw [hin x hx]
    show 32 + k < 16 * (5 + i) ∨ 16 * (5 + i) + 16 ≤ 32 + k
    omega
  · have hl : chunkLen j.patch.size k ≤ 16 := Nat.min_le_left _ _
    by_cases e : k = i
    · subst e
      show put F (5 + k) (fun q => bz (chunkT j k) (0 + q)) 16 (80 + 16 * k + m) = _
      rw [show 80 + 16 * k + m = 16 * (5 + k) + m from by omega, put_in (by omega), Nat.zero_add]
      exact chunk_bz hm
    · rw [← a4 k hk2 (bit_set (by omega) (by omega) hno ht e) m hm]
      refine puts_out fun x hx => ?_
      rw [hin x hx]
      show 80 + 16 * k + m < 16 * (5 + i) ∨ 16 * (5 + i) + 16 ≤ 80 + 16 * k + m
      omega
theorem ss_offer {j : Job} {key : ByteArray} {F : Nat → Nat} {w N : Nat} (hr : RecIs F w N) (hg : Good key F) (h : Sj j F) (hp : fld F 2 = 0) (ho : imgOf F (fld F 1) = j.old ∧ verOf F (fld F 1) = j.base) (tries : Nat) :
    SStays j F (manPages j.man ++ [sameW F 0 1 tries]) := by
  have hk := hg.kept
  have hfr : Free F (manPages j.man) := by
    intro x hx
    have := manPages_in hx
    omega
  refine ss_record hr hg h _ hfr (fun h1 => by omega) (sj_note hr hg _ (fun x hx => by have := manPages_in hx; omega) hk (.inl ho) (fun h2 => by omega) (fun _ => ⟨ho.1, ho.2, fun k hk2 => manPages_at F j.man hk2, fun k hk2 ht => ?_⟩))
  rw [Nat.zero_div] at ht
  omega
theorem ss_two {j : Job} {F : Nat → Nat} {x : Wr} {l : List Wr} (h1 : SStays j F [x]) (h2 : SStays j (put F x.1 x.2 16) l) : SStays j F (x :: l) := by
  intro c t ht
  rw [cut_two]
  by_cases hc : c = 0
  · rw [if_pos hc]
    have := h1 0 t ht
    rw [cut_two, if_pos rfl] at this
    exact this
  · rw [if_neg hc]
    exact h2 (c - 1) t ht
theorem ss_install {j : Job} (hj : JobOk j) {key : ByteArray} {F : Nat → Nat} {w N : Nat} (hr : RecIs F w N) (hg : Good key F) (h : Sj j F) (hp : fld F 2 = 1) {l0 l1 a b c d : Nat}
    (hl : fld F 1 = 0 ∧ l0 = fld F 4 ∧ l1 = j.now.size ∧ a = fld F 6 ∧ b = fld F 7 ∧ c = mf F 0 ∧ d = mf F 1 ∨ fld F 1 = 1 ∧ l0 = j.now.size ∧ l1 = fld F 5 ∧ a = mf F 0 ∧ b = mf F 1 ∧ c = fld F 8 ∧ d = fld F 9) :
    SStays j F (slotW (1 - fld F 1) j.now ++ [noteW F 0 (fld F 1) 2 3 l0 l1 a b c d 0]) := by
  have hk := hg.kept
  have hsz := image_size hj.now
  have h4 := hg.len0
  have h5 := hg.len1
  obtain ⟨a1, a2, a3, a4⟩ := h.fetch hp
  have hin := fun x (hx : x ∈ slotW (1 - fld F 1) j.now) => slotW_in (by omega) hx
  have hfr : Free F (slotW (1 - fld F 1) j.now) := by
    intro x hx
    have := hin x hx
    omega
  have hc6 : chunksN j.patch.size ≤ 6 := chunks_le hj.most
  refine ss_record hr hg h _ hfr (fun _ k hk2 _ x hx => by have := hin x hx; omega) ?_
  rw [noteW_is hr]
  obtain ⟨_, e, hout⟩ := all_written hr (slotW (1 - fld F 1) j.now) (fun x hx => (hfr x hx).1) (fld F 1) 2 3 l0 l1 a b c d 0
  generalize hG : puts F (slotW (1 - fld F 1) j.now ++ [(1 - w, recB ((N + 1) % 256) (fld F 1) 2 3 l0 l1 a b c d 0)]) = G at *
  have f1 : fld G 1 = fld F 1 := e 1 (by omega)
  have f2 : fld G 2 = 2 := e 2 (by omega)
  have f4 : fld G 4 = l0 := e 4 (by omega)
  have f5 : fld G 5 = l1 := e 5 (by omega)
  have f6 : fld G 6 = a := e 6 (by omega)
  have f7 : fld G 7 = b := e 7 (by omega)
  have f8 : fld G 8 = c := e 8 (by omega)
  have f9 : fld G 9 = d := e 9 (by omega)
  have m01 : 256 * mf F 0 + mf F 1 = j.up := by rw [a3 0 (by omega), a3 1 (by omega), Nat.mul_comm]; exact hj.m0
  have hold : imgOf G (fld F 1) = imgOf F (fld F 1) := by
    refine imgOf_same ?_ ?_ fun i hi => ?_
    · rcases hl with ⟨q, q0, _⟩ | ⟨q, _, q1, _⟩
      · rw [q]; exact f4.trans q0
      · rw [q]; exact f5.trans q1
    · rcases hl with ⟨q, _⟩ | ⟨q, _⟩
      · rw [q]; exact h4
      · rw [q]; exact h5
    · rw [hout _ (by omega)]
      exact puts_out fun x hx => by have := hin x hx; omega
  have vold : verOf G (fld F 1) = verOf F (fld F 1) := by
    rcases hl with ⟨q, _, _, q6, q7, _⟩ | ⟨q, _, _, _, _, q8, q9⟩
    · rw [q]
      show 256 * fld G 6 + fld G 7 = 256 * fld F 6 + fld F 7
      rw [f6, f7, q6, q7]
    · rw [q]
      show 256 * fld G 8 + fld G 9 = 256 * fld F 8 + fld F 9
      rw [f8, f9, q8, q9]
  have hnew : imgOf G (1 - fld F 1) = j.now := by
    have hlen : fld G (4 + (1 - fld F 1)) = j.now.size := by
      rcases hl with ⟨q, _, q1, _⟩ | ⟨q, q0, _⟩
      · rw [show 4 + (1 - fld F 1) = 5 from by omega, f5]; exact q1
      · rw [show 4 + (1 - fld F 1) = 4 from by omega, f4]; exact q0
    unfold imgOf
    rw [hlen]
    refine Eq.trans (mk_congr fun i hi => ?_) (self_mk j.now).symm
    rw [hout _ (by omega)]
    exact slotW_at F _ j.now hi
  have vnew : verOf G (1 - fld F 1) = j.up := by
    rcases hl with ⟨q, _, _, _, _, q8, q9⟩ | ⟨q, _, _, q6, q7, _⟩
    · rw [show 1 - fld F 1 = 1 from by omega]
      show 256 * fld G 8 + fld G 9 = _
      rw [f8, f9, q8, q9]; exact m01
    · rw [show 1 - fld F 1 = 0 from by omega]
      show 256 * fld G 6 + fld G 7 = _
      rw [f6, f7, q6, q7]; exact m01
  refine ⟨?_, ?_, ?_⟩
  · rw [f1, hold, vold]; exact .inl ⟨a1, a2⟩
  · intro _; rw [f1, hold, vold, hnew, vnew]; exact ⟨a1, a2, rfl, rfl⟩
  · rw [f2]; intro h1; omega
/-- the events of a change -/
def JobEv (j : Job) (e : Ev) : Prop := (e.kind ≠ 5 ∧ e.kind ≠ 6) ∨ (e.kind = 5 ∧ e.text = j.man) ∨ ∃ i : Nat, e.kind = 6 ∧ i < chunksN j.patch.size ∧ e.n = i ∧ e.text = chunkT j i
theorem ss_installs {j : Job} (hj : JobOk j) {d : Dev} (h : Inv' d) (hs : Sj j d.F) (hp : fld d.F 2 = 1) (hm : missing d.F = []) : SStays j d.F (installs d).ws := by
  obtain ⟨⟨w, N, hr⟩, hg, _⟩ := h
  have hb := built_job hj hs hp hm
  have hk := hg.kept
  unfold installs
  rw [hb, if_neg (by simp)]
  show SStays j d.F (slotW (1 - fld d.F 1) j.now ++ [if 1 - fld d.F 1 = 0 then noteW d.F 0 1 2 3 j.now.size (fld d.F 5) (mf d.F 0) (mf d.F 1) (fld d.F 8) (fld d.F 9) 0 else noteW d.F 0 0 2 3 (fld d.F 4) j.now.size (fld d.F 6) (fld d.F 7) (mf d.F 0) (mf d.F 1) 0])
  by_cases e : 1 - fld d.F 1 = 0
  · rw [if_pos e]
    have e1 : fld d.F 1 = 1 := by omega
    have := ss_install hj hr hg hs hp (l0 := j.now.size) (l1 := fld d.F 5) (a := mf d.F 0) (b := mf d.F 1) (c := fld d.F 8) (d := fld d.F 9) (.inr ⟨e1, rfl, rfl, rfl, rfl, rfl, rfl⟩)
    rw [e1] at this ⊢
    exact this
  · rw [if_neg e]
    have e1 : fld d.F 1 = 0 := by omega
    have := ss_install hj hr hg hs hp (l0 := fld d.F 4) (l1 := j.now.size) (a := fld d.F 6) (b := fld d.F 7) (c := mf d.F 0) (d := mf d.F 1) (.inl ⟨e1, rfl, rfl, rfl, rfl, rfl, rfl⟩)
    rw [e1] at this ⊢
    exact this
end Go.Proofs.YtjfmiomopfjecabGreat.M

/- Every event of a change keeps what the change needs, wherever the power fails. -/
namespace Go.Proofs.YtjfmiomopfjecabGreat.M

theorem after_same {key : ByteArray} {F : Nat → Nat} {w N : Nat} (hr : RecIs F w N) (hg : Good key F) {t : Nat} (ht : t ≤ 3) :
    RecIs (puts F [sameW F 0 0 t]) (1 - w) ((N + 1) % 256) ∧ Good key (puts F [sameW F 0 0 t]) ∧ fld (puts F [sameW F 0 0 t]) 2 = 0 ∧ fld (puts F [sameW F 0 0 t]) 1 = fld F 1 ∧ sameW F 1 1 t = sameW (puts F [sameW F 0 0 t]) 0 1 t := by
  have hs1 := stays_same hr hg (phase := 0) (tries := t) (.inl rfl) ht
  have hw1 := hs1 1 16 (Nat.le_refl _)
  rw [cutAt_all (show [sameW F 0 0 t].length ≤ 1 from Nat.le_refl _)] at hw1
  obtain ⟨_, hg1⟩ := hw1
  have hall := all_written hr [] (fun x hx => by cases hx) (fld F 1) 0 t (fld F 4) (fld F 5) (fld F 6) (fld F 7) (fld F 8) (fld F 9) 0
  rw [List.nil_append] at hall
  have eF : puts F [sameW F 0 0 t] = puts F [((1 - w, recB ((N + 1) % 256) (fld F 1) 0 t (fld F 4) (fld F 5) (fld F 6) (fld F 7) (fld F 8) (fld F 9) 0) : Wr)] := by rw [sameW_is hr]
  have hr1 := hall.1
  have hf := hall.2.1
  rw [← eF] at hr1 hf
  have q1 : fld (puts F [sameW F 0 0 t]) 1 = fld F 1 := hf 1 (by omega)
  have q4 : fld (puts F [sameW F 0 0 t]) 4 = fld F 4 := hf 4 (by omega)
  have q5 : fld (puts F [sameW F 0 0 t]) 5 = fld F 5 := hf 5 (by omega)
  have q6 : fld (puts F [sameW F 0 0 t]) 6 = fld F 6 := hf 6 (by omega)
  have q7 : fld (puts F [sameW F 0 0 t]) 7 = fld F 7 := hf 7 (by omega)
  have q8 : fld (puts F [sameW F 0 0 t]) 8 = fld F 8 := hf 8 (by omega)
  have q9 : fld (puts F [sameW F 0 0 t]) 9 = fld F 9 := hf 9 (by omega)
  have hw := hr.1
  refine ⟨hr1, hg1, hf 2 (by omega), q1, ?_⟩
  rw [sameW_one hr, sameW_is hr1, q1, q4, q5, q6, q7, q8, q9, show 1 - (1 - w) = w from by omega]
theorem kept_old {j : Job} (hj : JobOk j) {F : Nat → Nat} (h : Sj j F) (hv : verOf F (fld F 1) = j.base) : imgOf F (fld F 1) = j.old ∧ verOf F (fld F 1) = j.base := by
  have := hj.less
  rcases h.kept with k | k
  · exact k
  · omega
theorem ss_offers {j : Job} (hj : JobOk j) {d : Dev} (h : Inv' d) (hs : Sj j d.F) : SStays j d.F (offers d j.man).ws := by
  obtain ⟨⟨w, N, hr⟩, hg, _⟩ := h
  unfold offers
  by_cases e1 : fld d.F 2 = 2
  · rw [if_pos e1]; exact ss_nil hs
  rw [if_neg e1]
  by_cases e2 : isManifest d.key j.man = false
  · rw [if_pos e2]; exact ss_nil hs
  rw [if_neg e2]
  by_cases e3 : bz j.man 0 * 256 + bz j.man 1 ≤ keptV d.F ∨ bz j.man 2 * 256 + bz j.man 3 ≠ keptV d.F
  · rw [if_pos e3]; exact ss_nil hs
  rw [if_neg e3]
  have hv : verOf d.F (fld d.F 1) = j.base := by
    have := hj.m2
    unfold keptV at e3
    omega
  have ho := kept_old hj hs hv
  have hph := hg.phase
  have htr := hg.tries
  have hk := hg.kept
  by_cases e4 : fld d.F 2 = 1
  · rw [if_pos e4, if_pos e4]
    obtain ⟨hr1, hg1, hp1, q1, hn⟩ := after_same hr hg htr
    have hs1 := ss_same hr hg hs (phase := 0) (tries := fld d.F 3) (.inl rfl)
    have hS := hs1 1 16 (Nat.le_refl _)
    rw [cutAt_all (show [sameW d.F 0 0 (fld d.F 3)].length ≤ 1 from Nat.le_refl _)] at hS
    have hv1 : verOf (puts d.F [sameW d.F 0 0 (fld d.F 3)]) (fld (puts d.F [sameW d.F 0 0 (fld d.F 3)]) 1) = j.base := by
      have hall := all_written hr [] (fun x hx => by cases hx) (fld d.F 1) 0 (fld d.F 3) (fld d.F 4) (fld d.F 5) (fld d.F 6) (fld d.F 7) (fld d.F 8) (fld d.F 9) 0
      rw [List.nil_append, ← sameW_is hr] at hall
      rw [q1, ← hv]
      have hc : fld d.F 1 = 0 ∨ fld d.F 1 = 1 := by omega
      rcases hc with e | e
      · rw [e]
        show 256 * fld (puts d.F [sameW d.F 0 0 (fld d.F 3)]) 6 + fld (puts d.F [sameW d.F 0 0 (fld d.F 3)]) 7 = 256 * fld d.F 6 + fld d.F 7
        rw [hall.2.1 6 (by omega), hall.2.1 7 (by omega)]
        rfl
      · rw [e]
        show 256 * fld (puts d.F [sameW d.F 0 0 (fld d.F 3)]) 8 + fld (puts d.F [sameW d.F 0 0 (fld d.F 3)]) 9 = 256 * fld d.F 8 + fld d.F 9
        rw [hall.2.1 8 (by omega), hall.2.1 9 (by omega)]
        rfl
    have h2 := ss_offer hr1 hg1 hS hp1 (kept_old hj hS hv1) (fld d.F 3)
    rw [← hn] at h2
    exact ss_two hs1 h2
  · rw [if_neg e4, if_neg e4]
    exact ss_offer hr hg hs (by omega) ho (fld d.F 3)
theorem ss_takes {j : Job} (hj : JobOk j) {d : Dev} (h : Inv' d) (hs : Sj j d.F) {i : Nat} (hi : i < chunksN j.patch.size) : SStays j d.F (takes d i (chunkT j i)).ws := by
  obtain ⟨⟨w, N, hr⟩, hg, _⟩ := h
  unfold takes
  by_cases e1 : fld d.F 2 ≠ 1
  · rw [if_pos e1]; exact ss_nil hs
  rw [if_neg e1]
  split
  · exact ss_nil hs
  · rw [Int.toNat_natCast]
    split
    · exact ss_nil hs
    · rename_i e3
      exact ss_take hj hr hg hs (by omega) hi e3
theorem ss_confirms {j : Job} {d : Dev} (h : Inv' d) (hs : Sj j d.F) : SStays j d.F (confirms d).ws := by
  obtain ⟨⟨w, N, hr⟩, hg, _⟩ := h
  unfold confirms
  by_cases e : fld d.F 2 ≠ 2
  · rw [if_pos e]; exact ss_nil hs
  · rw [if_neg e]
    obtain ⟨_, _, t3, t4⟩ := hs.trial (by omega)
    have hk := hg.kept
    exact ss_note hr hg hs (by omega) (by omega) (.inr ⟨t3, t4⟩) (fun h2 => by omega)
theorem ss_boots {j : Job} {d : Dev} (h : Inv' d) (hs : Sj j d.F) : SStays j d.F (boots d).ws := by
  obtain ⟨⟨w, N, hr⟩, hg, _⟩ := h
  show SStays j d.F (if fld d.F 2 = 2 then (if fld d.F 3 = 0 then [sameW d.F 0 0 0] else [sameW d.F 0 2 (fld d.F 3 - 1)]) else [])
  by_cases e : fld d.F 2 = 2
  · rw [if_pos e]
    by_cases e3 : fld d.F 3 = 0
    · rw [if_pos e3]; exact ss_same hr hg hs (.inl rfl)
    · rw [if_neg e3]; exact ss_same hr hg hs (.inr ⟨rfl, e⟩)
  · rw [if_neg e]; exact ss_nil hs
theorem ss_ticks {j : Job} (hj : JobOk j) {d : Dev} (h : Inv' d) (hs : Sj j d.F) : SStays j d.F (ticks d).ws := by
  have h0 := h
  obtain ⟨⟨w, N, hr⟩, hg, _⟩ := h
  unfold ticks
  by_cases e2 : fld d.F 2 = 2
  · rw [if_pos e2]
    show SStays j d.F (if 5 ≤ d.age + 1 then [sameW d.F 0 0 0] else [])
    split
    · exact ss_same hr hg hs (.inl rfl)
    · exact ss_nil hs
  rw [if_neg e2]
  by_cases e1 : fld d.F 2 = 1
  · rw [if_pos e1]
    cases hm : missing d.F with
    | nil => exact ss_installs hj h0 hs e1 hm
    | cons i l =>
      show SStays j d.F (if d.wait ≤ 1 then _ else _ : Plan).ws
      split
      · exact ss_nil hs
      · exact ss_nil hs
  · rw [if_neg e1]; exact ss_nil hs
theorem ss_planned {j : Job} (hj : JobOk j) {d : Dev} (h : Inv' d) (hs : Sj j d.F) {e : Ev} (he : JobEv j e) : SStays j d.F (planned d e).ws := by
  unfold planned
  split
  · exact ss_nil hs
  split
  · exact ss_nil hs
  split
  · exact ss_nil hs
  split
  · exact ss_nil hs
  split
  · exact ss_boots h hs
  split
  · exact ss_ticks hj h hs
  split
  · exact ss_nil hs
  split
  · rename_i h5
    rcases he with ⟨h6, _⟩ | ⟨_, ht⟩ | ⟨i, h6, _⟩
    · exact absurd h5 h6
    · rw [ht]; exact ss_offers hj h hs
    · omega
  split
  · rename_i h6
    rcases he with ⟨_, h7⟩ | ⟨h7, _⟩ | ⟨i, _, hi, hn, ht⟩
    · exact absurd h6 h7
    · omega
    · rw [hn, ht]; exact ss_takes hj h hs hi
  · exact ss_confirms h hs
/-- what a change needs stays, whatever of its events come, wherever the power fails -/
theorem s_do {j : Job} (hj : JobOk j) {d : Dev} (h : Inv' d) (hs : Sj j d.F) {e : Ev} (he : JobEv j e) : Sj j (doM d e).1.F := by
  have hp := ss_planned hj h hs he
  unfold doM
  split
  · exact hp e.cut.toNat (tornN e.torn) (tornN_le _)
  · have := hp (planned d e).ws.length 16 (Nat.le_refl _)
    rw [cutAt_all (Nat.le_refl _)] at this
    exact this
end Go.Proofs.YtjfmiomopfjecabGreat.M

/- A new device in plain words. -/
namespace Go.Proofs.YtjfmiomopfjecabGreat.M

def newF (image : ByteArray) (version : Nat) : Nat → Nat := fun p =>
  if p = 0 then 1 else if p = 4 then image.size else if p = 6 then version / 256 else if p = 7 then version % 256 else if p = 15 then 1
  else if 176 ≤ p ∧ p < 176 + image.size then bz image (p - 176) else 0
def newD (key image : ByteArray) (version : Nat) : Dev := ⟨key, newF image version, true, 0, 1, 0⟩
theorem newF_rec (image : ByteArray) (version : Nat) : RecIs (newF image version) 0 1 := by
  refine ⟨by omega, by omega, rfl, rfl, ?_, ?_, ?_⟩
  · show newF image version 31 = 0
    unfold newF
    rw [if_neg (by omega), if_neg (by omega), if_neg (by omega), if_neg (by omega), if_neg (by omega), if_neg (by omega)]
  · show 1 < 256; omega
  · show newF image version 16 < 256
    unfold newF
    rw [if_neg (by omega), if_neg (by omega), if_neg (by omega), if_neg (by omega), if_neg (by omega), if_neg (by omega)]
    omega
theorem newF_fld (image : ByteArray) (version i : Nat) : fld (newF image version) i = newF image version i := by
  unfold fld
  rw [recAt_is (newF_rec image version), Nat.mul_zero, Nat.zero_add]
theorem newF_at {image : ByteArray} {version j : Nat} (hj : j < image.size) : newF image version (176 + j) = bz image j := by
  unfold newF
  rw [if_neg (by omega), if_neg (by omega), if_neg (by omega), if_neg (by omega), if_neg (by omega), if_pos ⟨by omega, by omega⟩, show 176 + j - 176 = j from by omega]
theorem newF_nought {image : ByteArray} {version i : Nat} (h0 : i ≠ 0) (h4 : i ≠ 4) (h6 : i ≠ 6) (h7 : i ≠ 7) (h15 : i ≠ 15) (h : i < 176) : newF image version i = 0 := by
  unfold newF
  rw [if_neg h0, if_neg h4, if_neg h6, if_neg h7, if_neg h15, if_neg (by omega)]
theorem newF_img (image : ByteArray) (version : Nat) : imgOf (newF image version) 0 = image := by
  unfold imgOf
  have e : fld (newF image version) (4 + 0) = image.size := by rw [newF_fld]; rfl
  rw [e]
  refine Eq.trans (mk_congr fun j hj => ?_) (self_mk image).symm
  rw [show 16 * (11 + 6 * 0) + j = 176 + j from by omega]
  exact newF_at hj
theorem newF_ver (image : ByteArray) (version : Nat) : verOf (newF image version) 0 = version := by
  unfold verOf
  rw [newF_fld, newF_fld]
  show 256 * (version / 256) + version % 256 = version
  omega
theorem new_good {key image : ByteArray} {version : Nat} (hi : isImage image = true) (hv : version ≤ 65535) : Inv' (newD key image version) := by
  have hsz := image_size hi
  have n1 : fld (newF image version) 1 = 0 := by rw [newF_fld]; exact newF_nought (by omega) (by omega) (by omega) (by omega) (by omega) (by omega)
  have n2 : fld (newF image version) 2 = 0 := by rw [newF_fld]; exact newF_nought (by omega) (by omega) (by omega) (by omega) (by omega) (by omega)
  have n3 : fld (newF image version) 3 = 0 := by rw [newF_fld]; exact newF_nought (by omega) (by omega) (by omega) (by omega) (by omega) (by omega)
  have n4 : fld (newF image version) 4 = image.size := by rw [newF_fld]; rfl
  have n5 : fld (newF image version) 5 = 0 := by rw [newF_fld]; exact newF_nought (by omega) (by omega) (by omega) (by omega) (by omega) (by omega)
  refine ⟨⟨0, 1, newF_rec image version⟩, ⟨?_, ?_, ?_, ?_, ?_, ?_, ?_, ?_, ?_⟩, by show 0 ≤ 8; omega, by show 1 ≤ 1; omega, by show 1 ≤ 8; omega, by show 0 ≤ 5; omega, fun _ _ => by show 0 ≤ 4; omega⟩
  · intro p
    show newF image version p < 256
    unfold newF
    exact ite_lt (by omega) (ite_lt (by omega) (ite_lt (by omega) (ite_lt (by omega) (ite_lt (by omega) (ite_lt (bz_lt _ _) (by omega))))))
  · show fld (newF image version) 1 ≤ 1; omega
  · show fld (newF image version) 2 ≤ 2; omega
  · show fld (newF image version) 3 ≤ 3; omega
  · show fld (newF image version) 4 ≤ 96; omega
  · show fld (newF image version) 5 ≤ 96; omega
  · show isImage (imgOf (newF image version) (fld (newF image version) 1)) = true
    rw [n1, newF_img]; exact hi
  · intro h
    have : fld (newF image version) 2 = 2 := h
    omega
  · intro h
    have : fld (newF image version) 2 = 1 := h
    omega
theorem new_sj (j : Job) : Sj j (newD j.key j.old j.base).F := by
  have n1 : fld (newF j.old j.base) 1 = 0 := by rw [newF_fld]; exact newF_nought (by omega) (by omega) (by omega) (by omega) (by omega) (by omega)
  have n2 : fld (newF j.old j.base) 2 = 0 := by rw [newF_fld]; exact newF_nought (by omega) (by omega) (by omega) (by omega) (by omega) (by omega)
  refine ⟨.inl ?_, fun h => ?_, fun h => ?_⟩
  · show imgOf (newF j.old j.base) (fld (newF j.old j.base) 1) = j.old ∧ verOf (newF j.old j.base) (fld (newF j.old j.base) 1) = j.base
    rw [n1, newF_img, newF_ver]
    exact ⟨rfl, rfl⟩
  · have : fld (newF j.old j.base) 2 = 2 := h
    omega
  · have : fld (newF j.old j.base) 2 = 1 := h
    omega
end Go.Proofs.YtjfmiomopfjecabGreat.M

/- A device in memory: one block of 373 cells; worlds of which some blocks alone change. -/
namespace Go.Proofs.YtjfmiomopfjecabGreat
open Go.RowKit

/-- n bytes, each in its cell -/
def byteC (n : Nat) (F : Nat → Nat) : List Value := (List.range n).map fun j => Value.int .u8 (F j : Int)
theorem byteC_length (n : Nat) (F : Nat → Nat) : (byteC n F).length = n := by simp [byteC]
theorem byteC_at {n : Nat} {F : Nat → Nat} {j : Nat} (h : j < n) : (byteC n F)[j]? = some (.int .u8 (F j : Int)) := by simp [byteC, h]
def tailC (on : Bool) (wait next age : Nat) : List Value := [.bool on, .int .i64 wait, .int .i64 next, .int .i64 age]
/-- the cells of a device: its key, its flash, whether it is on, its memory -/
def devCells (key : ByteArray) (F : Nat → Nat) (on : Bool) (wait next age : Nat) : Array Value := (Value.string key :: (byteC 368 F ++ tailC on wait next age)).toArray
theorem devCells_size (key : ByteArray) (F : Nat → Nat) (on : Bool) (wait next age : Nat) : (devCells key F on wait next age).size = 373 := by simp [devCells, byteC_length, tailC]
theorem devCells_key (key : ByteArray) (F : Nat → Nat) (on : Bool) (wait next age : Nat) : (devCells key F on wait next age)[0]? = some (.string key) := by simp [devCells]
theorem devCells_flash (key : ByteArray) (F : Nat → Nat) (on : Bool) (wait next age : Nat) {j : Nat} (h : j < 368) : (devCells key F on wait next age)[1 + j]? = some (.int .u8 (F j : Int)) := by
  unfold devCells
  rw [List.getElem?_toArray, Nat.add_comm 1 j, List.getElem?_cons_succ, List.getElem?_append_left (by rw [byteC_length]; exact h), byteC_at h]
theorem devCells_tail (key : ByteArray) (F : Nat → Nat) (on : Bool) (wait next age : Nat) (i : Nat) : (devCells key F on wait next age)[369 + i]? = (tailC on wait next age)[i]? := by
  unfold devCells
  rw [List.getElem?_toArray, show 369 + i = 368 + i + 1 from by omega, List.getElem?_cons_succ, List.getElem?_append_right (by rw [byteC_length]; omega), byteC_length, show 368 + i - 368 = i from by omega]
/-- a device lies in block b -/
def DevAt (w : World) (b : Nat) (t : TypeId) (key : ByteArray) (F : Nat → Nat) (on : Bool) (wait next age : Nat) : Prop := w.heap[b]? = some (.cells (devCells key F on wait next age) t (0, 0))
theorem cell_in {w : World} {b : Nat} {c : Array Value} {t : TypeId} {fr : Nat × Nat} (h : w.heap[b]? = some (.cells c t fr)) (o : Nat) : w.cell? ⟨b, o, none⟩ = c[o]? := by
  unfold World.cell?
  rw [h]
  rfl
section
variable {w : World} {b : Nat} {t : TypeId} {key : ByteArray} {F : Nat → Nat} {on : Bool} {wait next age : Nat}
theorem DevAt.lt (h : DevAt w b t key F on wait next age) : b < w.heap.size := (Array.getElem?_eq_some_iff.1 h).1
theorem DevAt.keyC (h : DevAt w b t key F on wait next age) : w.cell? ⟨b, 0, none⟩ = some (.string key) := (cell_in h 0).trans (devCells_key ..)
theorem DevAt.flash (h : DevAt w b t key F on wait next age) {j : Nat} (hj : j < 368) : w.cell? ⟨b, 1 + j, none⟩ = some (.int .u8 (F j : Int)) := (cell_in h _).trans (devCells_flash _ _ _ _ _ _ hj)
theorem DevAt.onC (h : DevAt w b t key F on wait next age) : w.cell? ⟨b, 369, none⟩ = some (.bool on) := (cell_in h _).trans (devCells_tail _ _ _ _ _ _ 0)
theorem DevAt.waitC (h : DevAt w b t key F on wait next age) : w.cell? ⟨b, 370, none⟩ = some (.int .i64 wait) := (cell_in h _).trans (devCells_tail _ _ _ _ _ _ 1)
theorem DevAt.nextC (h : DevAt w b t key F on wait next age) : w.cell? ⟨b, 371, none⟩ = some (.int .i64 next) := (cell_in h _).trans (devCells_tail _ _ _ _ _ _ 2)
theorem DevAt.ageC (h : DevAt w b t key F on wait next age) : w.cell? ⟨b, 372, none⟩ = some (.int .i64 age) := (cell_in h _).trans (devCells_tail _ _ _ _ _ _ 3)
theorem DevAt.free (h : DevAt w b t key F on wait next age) (o : Nat) : w.frozen? ⟨b, o, none⟩ = false := by
  unfold World.frozen?
  rw [h]
  simp
theorem setCell_in {w : World} {b : Nat} {c : Array Value} {t : TypeId} {fr : Nat × Nat} (h : w.heap[b]? = some (.cells c t fr)) (o : Nat) (v : Value) : (w.setCell ⟨b, o, none⟩ v).heap[b]? = some (.cells (c.setIfInBounds o v) t fr) := by
  unfold World.setCell
  rw [Array.getElem?_modify, if_pos rfl, h]
  rfl
theorem devCells_set (key : ByteArray) (F : Nat → Nat) (on : Bool) (wait next age : Nat) {j : Nat} (h : j < 368) (x : Nat) : (devCells key F on wait next age).setIfInBounds (1 + j) (.int .u8 (x : Int)) = devCells key (fun i => if i = j then x else F i) on wait next age := by
  apply Array.ext_getElem?
  intro i
  rw [Array.getElem?_setIfInBounds, devCells_size]
  by_cases e : 1 + j = i
  · subst e
    rw [if_pos rfl, if_pos (by omega), devCells_flash _ _ _ _ _ _ h, if_pos rfl]
  · rw [if_neg e]
    by_cases h0 : i = 0
    · subst h0; rw [devCells_key, devCells_key]
    · by_cases h1 : i < 369
      · obtain ⟨k, rfl⟩ : ∃ k, i = 1 + k := ⟨i - 1, by omega⟩
        rw [devCells_flash _ _ _ _ _ _ (by omega), devCells_flash _ _ _ _ _ _ (by omega), if_neg (by omega)]
      · obtain ⟨k, rfl⟩ : ∃ k, i = 369 + k := ⟨i - 369, by omega⟩
        rw [devCells_tail, devCells_tail]
theorem DevAt.put (h : DevAt w b t key F on wait next age) {j : Nat} (hj : j < 368) (x : Nat) : DevAt (w.setCell ⟨b, 1 + j, none⟩ (.int .u8 (x : Int))) b t key (fun i => if i = j then x else F i) on wait next age := by
  unfold DevAt
  rw [setCell_in h, devCells_set _ _ _ _ _ _ hj]
theorem devCells_setTail (key : ByteArray) (F : Nat → Nat) (on on' : Bool) (wait next age wait' next' age' : Nat) (k : Nat) (v : Value) (hk : (tailC on wait next age).set k v = tailC on' wait' next' age') :
    (devCells key F on wait next age).setIfInBounds (369 + k) v = devCells key F on' wait' next' age' := by
  unfold devCells
  rw [List.setIfInBounds_toArray, show 369 + k = 368 + k + 1 from by omega, List.set_cons_succ, List.set_append_right _ _ (by rw [byteC_length]; omega), byteC_length, show 368 + k - 368 = k from by omega, hk]
theorem DevAt.setOn (h : DevAt w b t key F on wait next age) (on' : Bool) : DevAt (w.setCell ⟨b, 369, none⟩ (.bool on')) b t key F on' wait next age := by
  unfold DevAt
  rw [setCell_in h]
  exact congrArg (fun c => some (Obj.cells c t (0, 0))) (devCells_setTail _ _ _ _ _ _ _ _ _ _ 0 _ rfl)
theorem DevAt.setWait (h : DevAt w b t key F on wait next age) (x : Nat) : DevAt (w.setCell ⟨b, 370, none⟩ (.int .i64 x)) b t key F on x next age := by
  unfold DevAt
  rw [setCell_in h]
  exact congrArg (fun c => some (Obj.cells c t (0, 0))) (devCells_setTail _ _ _ _ _ _ _ _ _ _ 1 _ rfl)
theorem DevAt.setNext (h : DevAt w b t key F on wait next age) (x : Nat) : DevAt (w.setCell ⟨b, 371, none⟩ (.int .i64 x)) b t key F on wait x age := by
  unfold DevAt
  rw [setCell_in h]
  exact congrArg (fun c => some (Obj.cells c t (0, 0))) (devCells_setTail _ _ _ _ _ _ _ _ _ _ 2 _ rfl)
theorem DevAt.setAge (h : DevAt w b t key F on wait next age) (x : Nat) : DevAt (w.setCell ⟨b, 372, none⟩ (.int .i64 x)) b t key F on wait next x := by
  unfold DevAt
  rw [setCell_in h]
  exact congrArg (fun c => some (Obj.cells c t (0, 0))) (devCells_setTail _ _ _ _ _ _ _ _ _ _ 3 _ rfl)
theorem DevAt.mono {w' : World} {B : Nat} (h : DevAt w b t key F on wait next age) (hb : Below B w w') (hB : b < B) : DevAt w' b t key F on wait next age := (hb.block b hB).trans h
end

/-- of what was there, the blocks in p alone may hold something else -/
structure Only (p : Nat → Prop) (w w' : World) : Prop where
  os : w'.os = w.os
  tape : w'.tape = w.tape
  output : w'.output = w.output
  size : w.heap.size ≤ w'.heap.size
  block : ∀ k, k < w.heap.size → ¬ p k → w'.heap[k]? = w.heap[k]?
theorem Only.refl (p : Nat → Prop) (w : World) : Only p w w := ⟨rfl, rfl, rfl, Nat.le_refl _, fun _ _ _ => rfl⟩
theorem Only.trans {p : Nat → Prop} {a b c : World} (h : Only p a b) (k : Only p b c) : Only p a c :=
  ⟨k.os.trans h.os, k.tape.trans h.tape, k.output.trans h.output, Nat.le_trans h.size k.size, fun i hi hn => (k.block i (Nat.lt_of_lt_of_le hi h.size) hn).trans (h.block i hi hn)⟩
theorem Only.of {p : Nat → Prop} {w w' : World} (h : Below w.heap.size w w') : Only p w w' := ⟨h.os, h.tape, h.output, h.size, fun k hk _ => h.block k hk⟩
theorem Only.mono {p q : Nat → Prop} {w w' : World} (h : Only p w w') (hp : ∀ k, p k → q k) : Only q w w' := ⟨h.os, h.tape, h.output, h.size, fun k hk hn => h.block k hk fun e => hn (hp k e)⟩
theorem Only.below {p : Nat → Prop} {w w' : World} {B : Nat} (h : Only p w w') (hB : B ≤ w.heap.size) (hp : ∀ k, p k → B ≤ k) : Below B w w' :=
  ⟨h.os, h.tape, h.output, h.size, fun k hk => h.block k (Nat.lt_of_lt_of_le hk hB) fun e => absurd (hp k e) (by omega)⟩
theorem only_set (w : World) (b o : Nat) (v : Value) : Only (· = b) w (w.setCell ⟨b, o, none⟩ v) := by
  refine ⟨rfl, rfl, rfl, by simp [World.setCell], fun k _ hn => ?_⟩
  unfold World.setCell
  rw [Array.getElem?_modify, if_neg (fun e => hn e.symm)]
theorem only_alloc (p : Nat → Prop) (w : World) (o : Obj) : Only p w (w.alloc o) := Only.of ((Below.refl _ _).alloc (Nat.le_refl _) _)
theorem Only.drop {p : Nat → Prop} {w w' : World} (h : Only p w w') (hp : ∀ k, p k → w.heap.size ≤ k) : Below w.heap.size w w' := h.below (Nat.le_refl _) hp
theorem Only.drew {p : Nat → Prop} {w w' : World} (h : Only p w w') : Only p w w'.drew := ⟨h.os, h.tape, h.output, h.size, h.block⟩
theorem DevAt.drew {w : World} {b : Nat} {t : TypeId} {key : ByteArray} {F : Nat → Nat} {on : Bool} {wait next age : Nat} (h : DevAt w b t key F on wait next age) : DevAt w.drew b t key F on wait next age := h
theorem DevAt.same {w : World} {b : Nat} {t : TypeId} {key : ByteArray} {F F' : Nat → Nat} {on : Bool} {wait next age : Nat} (h : DevAt w b t key F on wait next age) (e : F = F') : DevAt w b t key F' on wait next age := e ▸ h
/-- what lies in a block that does not change -/
theorem Only.cell {p : Nat → Prop} {w w' : World} (h : Only p w w') {a : Addr} (hk : a.block < w.heap.size) (hn : ¬ p a.block) : w'.cell? a = w.cell? a := by
  unfold World.cell?
  rw [h.block _ hk hn]
theorem HoldsRow.only {p : Nat → Prop} {w w' : World} {v : Value} {n : Nat} {xs : List Value} (h : HoldsRow w v n xs) (ho : Only p w w') (hne : ∀ g, v.ownBlock = some g → ¬ p g) : HoldsRow w' v n xs := by
  rcases h with h | ⟨g, cap, rfl, hg, h1, h2, h3⟩
  · exact .inl h
  · refine .inr ⟨g, cap, rfl, Nat.lt_of_lt_of_le hg ho.size, h1, h2, fun j u hj => ?_⟩
    exact (ho.cell (a := ⟨g, j, none⟩) hg (hne g rfl)).trans (h3 j u hj)

theorem bytes_of (l : List Int) (r : ByteArray) : l.foldl (fun r n => r.push (UInt8.ofNat n.toNat)) r = ⟨(r.data.toList ++ l.map fun n => UInt8.ofNat n.toNat).toArray⟩ := by
  induction l generalizing r with
  | nil => simp
  | cons x l ih => rw [List.foldl_cons, ih]; simp [ByteArray.push]
theorem mk_cells (n : Nat) (F : Nat → Nat) : ((List.range n).map fun j => (F j : Int)).foldl (fun r n => r.push (UInt8.ofNat n.toNat)) (⟨#[]⟩ : ByteArray) = M.mk n F := by
  rw [bytes_of]
  unfold M.mk M.bytesOf
  simp only [List.map_map]
  rfl
/-- n bytes of a block as a text -/
theorem cells_text {w : World} {b o n : Nat} {F : Nat → Nat} (h : ∀ j, j < n → w.cell? ⟨b, o + j, none⟩ = some (.int .u8 (F j : Int))) :
    (convert 79 9 (.slice (some ⟨b, o, none⟩) n n)).run Tryz.prog w = .ok (.string (M.mk n F)) w := by
  have hl : (loadCells ⟨b, o, none⟩ n).run Tryz.prog w = .ok (((List.range n).map fun j => (F j : Int)).map (Value.int .u8)).toArray w := by
    have h5 := run_loadCells_list (P := Tryz.prog) (w := w) ⟨b, o, none⟩ (((List.range n).map fun j => (F j : Int)).map (Value.int .u8)) (by
      intro j v hj
      have hlt : j < n := by
        have := List.getElem?_eq_some_iff.1 hj
        simpa using this.1
      have e : (⟨b, o, none⟩ : Addr).add j = ⟨b, o + j, none⟩ := by unfold Addr.add; split <;> simp_all
      rw [e, h j hlt, ← hj]
      simp [hlt])
    simpa using h5
  rw [run_convert_bytes_string _ 79 9 5 _ _ _ Tryz.underlying79 Tryz.underlying5 Tryz.underlying9, run_bytesToString _ _ _ _ _ hl]
  rw [← mk_cells]
  rfl
/-- the whole flash as a text -/
theorem flash_cells {w : World} {b : Nat} {t : TypeId} {key : ByteArray} {F : Nat → Nat} {on : Bool} {wait next age : Nat} (h : DevAt w b t key F on wait next age) :
    (convert 79 9 (.slice (some ⟨b, 1, none⟩) 368 368)).run Tryz.prog w = .ok (.string (M.mk 368 F)) w := cells_text fun _ hj => h.flash hj
end Go.Proofs.YtjfmiomopfjecabGreat

/- slotskeep's small functions on nets. -/
namespace Go.Proofs.YtjfmiomopfjecabGreat
open Go.RowKit

theorem kPick_any (c : Int) (n : Nat) (w : World) (h0 : -9223372036854775808 ≤ c) (h1 : c ≤ 9223372036854775807) (hn : 1 ≤ n) (hn2 : n ≤ 1000000) :
    Calls Tryz.prog 12 #[.int .i64 c, .int .i64 n] w fun e w' => e = .returned (.int .i64 (M.pk c n)) ∧ w = w' := by
  by_cases hc : c < 0
  · have HE : Hid ((M.pk c n : Int) = -(c + 1) % (n : Int)) := by
      show ((M.pk c n : Nat) : Int) = _
      unfold M.pk
      rw [if_pos hc, Int.toNat_of_nonneg (Int.emod_nonneg _ (by omega))]
    go_enter Tryz.func12, Tryz.ntmps12
    go_wp2
    go_ret
    exact ⟨ret_int (by rw [HE.out, ← Int.neg_tmod, Int.tmod_eq_emod_of_nonneg (by omega)]), rfl⟩
  · have HE : Hid ((M.pk c n : Int) = c % (n : Int)) := by
      show ((M.pk c n : Nat) : Int) = _
      unfold M.pk
      rw [if_neg hc, Int.toNat_of_nonneg (Int.emod_nonneg _ (by omega))]
    go_enter Tryz.func12, Tryz.ntmps12
    go_wp2
    go_ret
    exact ⟨ret_int HE.out.symm, rfl⟩

/-- the first n bytes, or all -/
def fstT (s : ByteArray) (n : Nat) : ByteArray := M.bytesOf (M.fillL s (min n s.size))
theorem fstT_cut {s : ByteArray} {n : Nat} (h : n < s.size) : s.extract 0 n = fstT s n := by
  unfold fstT
  rw [Nat.min_eq_left (by omega)]
  conv => lhs; rw [M.bytesOf_bz s, M.bytesOf_extract]
  congr 1
  unfold M.fillL
  rw [List.drop_zero, ← List.map_take, List.take_range]
  congr 2
  omega
theorem fstT_all {s : ByteArray} {n : Nat} (h : ¬ n < s.size) : s = fstT s n := by
  unfold fstT
  rw [Nat.min_eq_right (by omega)]
  exact M.bytesOf_bz s
theorem fstT_size (s : ByteArray) (n : Nat) : (fstT s n).size = min n s.size := by
  unfold fstT
  rw [M.bytesOf_size, M.fillL_length]
theorem fstT_bz (s : ByteArray) (n i : Nat) (h : i < n) : M.bz (fstT s n) i = M.bz s i := by
  unfold fstT
  rw [M.bz_bytesOf (M.fillL_all _ _)]
  by_cases hi : i < s.size
  · rw [M.fillL_getD _ _ _ (by omega)]
  · rw [M.bz_out s i (by omega), List.getD_eq_getElem?_getD, List.getElem?_eq_none (by rw [M.fillL_length]; omega)]
    rfl
theorem kFirst_any (s : ByteArray) (n : Nat) (w : World) (_hs : s.size ≤ maxLen) (hn : n ≤ 1000000) :
    Calls Tryz.prog 42 #[.string s, .int .i64 n] w fun e w' => e = .returned (.string (fstT s n)) ∧ w = w' := by
  unfold maxLen at _hs
  by_cases h : n < s.size
  · have HE := hide (fstT_cut h)
    go_enter Tryz.func42, Tryz.ntmps42
    go_wp2
    go_ret
    exact ⟨ret_string HE.out, rfl⟩
  · have HE := hide (fstT_all h)
    go_enter Tryz.func42, Tryz.ntmps42
    go_wp2
    go_ret
    exact ⟨ret_string HE.out, rfl⟩

theorem oneRun (w : World) (v : Nat) :
    (convert 79 9 (.slice (some ⟨w.heap.size, 0, none⟩) 1 1)).run Tryz.prog (w.alloc (.cells #[.int .u8 (v : Int)] 5)) =
      .ok (.string (M.bytesOf [v])) (w.alloc (.cells #[.int .u8 (v : Int)] 5)) := by
  have h := text_run w [(v : Int)] 1 rfl
  simpa [M.bytesOf] using h
theorem kOne_any (v : Nat) (w : World) (hv : v ≤ 255) :
    Calls Tryz.prog 40 #[.int .i64 v] w fun e w' => e = .returned (.string (M.bytesOf [v])) ∧ Below w.heap.size w w' := by
  have hr := oneRun w v
  have ha : bits BinOp.and IntKind.i64 (v : Int) 255 = (v : Int) := by
    have e := M.and_i64 v 255 (by omega) (by omega)
    refine Eq.trans e ?_
    rw [show (255 : Nat) = 2 ^ 8 - 1 from rfl, Nat.and_two_pow_sub_one_eq_mod, Nat.mod_eq_of_lt (by omega)]
  go_enter Tryz.func40, Tryz.ntmps40
  go_wp2
  go_ret
  exact ⟨rfl, (Below.refl _ _).alloc (Nat.le_refl _) _⟩

theorem nul_bytes : (⟨#[0]⟩ : ByteArray) = M.bytesOf [0] := rfl
theorem kFill_any (s : ByteArray) (n : Nat) (w : World) (hs : s.size ≤ maxLen) (hn : n ≤ 1000) :
    Calls Tryz.prog 58 #[.string s, .int .i64 n] w fun e w' => e = .returned (.string (M.bytesOf (M.fillL s n))) ∧ w = w' := by
  go_enter Tryz.func58, Tryz.ntmps58
  go_wp2_with fail
  refine (kFirst_any s n _ hs (by omega)).mono ?_
  rintro e w' ⟨rfl, rfl⟩
  have H0 : Hid (fstT s n = M.bytesOf (M.fillL s (min n s.size))) := rfl
  have hz := fstT_size s n
  generalize fstT s n = t0 at *
  have hz1 : t0.size ≤ n := by omega
  have HZ := hide hz
  clear hz
  go_wp2_with fail
  go_loop [5] (fun v => ∃ (k : Nat) (t : ByteArray), min n s.size ≤ k ∧ k ≤ n ∧ v = .string t ∧ Hid (t = M.bytesOf (M.fillL s k)) ∧ k ≤ t.size ∧ t.size ≤ k) (fun v => match v with | .string t => n - t.size | _ => 0)
  case atStart => exact ⟨min n s.size, t0, Nat.le_refl _, by omega, rfl, H0, by rw [HZ.out]; exact Nat.le_refl _, by rw [HZ.out]; exact Nat.le_refl _⟩
  case round =>
    obtain ⟨k, t, hk0, hk, rfl, ht, ht1, ht2⟩ := hrel
    by_cases hlt : k < n
    · have HS : Hid (t ++ ⟨#[0]⟩ = M.bytesOf (M.fillL s (k + 1))) := by
        rw [M.fillL_succ, ← M.bytesOf_append, ← ht.out, M.bz_out s k (by omega), nul_bytes]; rfl
      have HL : Hid ((t ++ (⟨#[0]⟩ : ByteArray)).size = k + 1) := by
        rw [HS.out, M.bytesOf_size, M.fillL_length]; rfl
      go_wp2
      go_round
      case rel => exact ⟨k + 1, _, by omega, by omega, rfl, HS, Nat.le_of_eq HL.out.symm, Nat.le_of_eq HL.out⟩
      case measure => show n - (t ++ (⟨#[0]⟩ : ByteArray)).size < n - t.size; rw [HL.out]; omega
    · have hkn : k = n := by omega
      subst hkn
      go_wp2
      go_ret
      exact ⟨ret_string ht.out, rfl⟩

/-- what a node of kind op makes of x and y (for Const nothing is promised) -/
def doesV (op : Nat) (x y : Int) (b : Nat) : Int := if op = 6 then x / 2 ^ b else if op = 0 then M.mx x 0 else M.nodeDo op x y 0 0
end Go.Proofs.YtjfmiomopfjecabGreat

/- The program's reading of images: nodes, sound, Parse. -/
import Derived.Test.YtjfmiomopfjecaaNetCode1
import Derived.Test.YtjfmiomopfjecaaNetRefEval
namespace Go.Proofs.Ytjfmiomopfjecaa
open Go.RowKit

theorem infoNode : (Try.prog.info? 81).map (fun i => (i.zero, i.size, i.bytes)) = some (some (.agg #[.int .i64 0, .int .i64 0, .int .i64 0]), 3, 24) := by kernel_rfl
theorem bvals_three (s : ByteArray) (k : Nat) : intCells (bvals s 4 (3 * (k + 1))) = intCells (bvals s 4 (3 * k)) ++ [.int .i64 (M.bz s (4 + 3 * k)), .int .i64 (M.bz s (5 + 3 * k)), .int .i64 (M.bz s (6 + 3 * k))] := by
  have e : 3 * (k + 1) = 3 * k + 1 + 1 + 1 := by omega
  rw [e, bvals_succ, bvals_succ, bvals_succ, intCells_snoc, intCells_snoc, intCells_snoc]
  have e1 : 4 + (3 * k + 1) = 5 + 3 * k := by omega
  have e2 : 4 + (3 * k + 1 + 1) = 6 + 3 * k := by omega
  rw [e1, e2]
  simp

set_option maxHeartbeats 800000 in
theorem nodes_any (s : ByteArray) (c : Nat) (w : World) (hs : s.size ≤ maxLen) (hc : c ≤ 255) :
    Calls Try.prog 79 #[.string s, .int .i64 c] w fun e w' => ∃ v, e = .returned v ∧ w'.ownsRow w.heap.size 81 3 v c (intCells (bvals s 4 (3 * c))) ∧ Below w.heap.size w w' := by
  obtain ⟨i0, hi, hz0, hz1, hz2⟩ := info_parts infoNode
  have HI := hide hi
  have HZ0 := hide hz0
  have HZ1 := hide hz1
  have HZ2 := hide hz2
  clear hi hz0 hz1 hz2
  go_enter Try.func79, Try.ntmps79
  go_wp2_with fail
  go_loopw [5, 6] (fun v i wr => ∃ k : Nat, k ≤ c ∧ i = .int .i64 k ∧ wr.ownsRow w.heap.size 81 3 v k (intCells (bvals s 4 (3 * k))) ∧ Below w.heap.size w wr) (fun _ i _ => c - (intOf i).toNat)
  case atStart => exact ⟨0, by omega, rfl, World.ownsRow_nil _ _ _ _, Below.refl _ _⟩
  case round =>
    obtain ⟨k, hk, rfl, hown, hbel⟩ := hrel
    have HO := hide hown
    have HB := hide hbel
    have hsz := hbel.size
    clear hown hbel
    by_cases hlt : k < c
    · have HS := hide (bvals_three s k)
      go_wp2_with fail
      refine (wordByte_any s _ _ hs (by omega)).mono ?_
      rintro e w' ⟨rfl, rfl⟩
      rw [show (4 + 3 * (k : Int)).toNat = 4 + 3 * k from by omega]
      generalize M.bz s (4 + 3 * k) = x at *
      go_wp2_with fail
      refine (wordByte_any s _ _ hs (by omega)).mono ?_
      rintro e w' ⟨rfl, rfl⟩
      rw [show (4 + 3 * (k : Int) + 1).toNat = 5 + 3 * k from by omega]
      generalize M.bz s (5 + 3 * k) = y at *
      go_wp2_with fail
      refine (wordByte_any s _ _ hs (by omega)).mono ?_
      rintro e w' ⟨rfl, rfl⟩
      rw [show (4 + 3 * (k : Int) + 2).toNat = 6 + 3 * k from by omega]
      generalize M.bz s (6 + 3 * k) = z at *
      go_wp2_with (at_builtin; go_loud (refine append_one (wr.alloc (.cells #[.int .i64 x, .int .i64 y, .int .i64 z] 81)) rfl (.tmp 31) (.tmp 33) 64 rfl w.heap.size 81 i0 _ 3 24 Try.underlying64 (unhide HI) (unhide HZ0) (unhide HZ1) (unhide HZ2) rfl (by decide) u5 k _ rfl ((unhide HO).alloc _) [.int .i64 x, .int .i64 y, .int .i64 z] rfl (by simp [Act.eval]) (by simp [Value.oneCell']) (by omega) (by omega) (by simp; omega) ?_); intro v' w1 hown1 hbel1 hsz1)
      have HR : Hid (w1.ownsRow w.heap.size 81 3 v' (k + 1) (intCells (bvals s 4 (3 * (k + 1))))) := by rw [HS.out]; exact hown1
      have HB1 := hide (hbel1 w ((unhide HB).alloc hsz _))
      clear hown1 hbel1
      go_roundw
      case rel => exact ⟨k + 1, by omega, by go_num, unhide HR, unhide HB1⟩
      case measure => simp [intOf]; omega
    · have : k = c := by omega
      subst this
      go_wp2
      go_ret
      exact ⟨_, rfl, unhide HO, unhide HB⟩
end Go.Proofs.Ytjfmiomopfjecaa

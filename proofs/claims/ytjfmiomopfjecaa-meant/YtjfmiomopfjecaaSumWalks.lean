/- The walks of the sum: sum.eightTimes, sum.Of, slots.Sum, slotsref.Sum. -/
import Derived.Test.YtjfmiomopfjecaaRows
import Derived.Test.YtjfmiomopfjecaaSumMath
import Derived.WalkKit
import Derived.WalkSpells
import Derived.WalkLawsBesides
namespace Go.Proofs.Ytjfmiomopfjecaa
open Go.RowKit

theorem hide {p : Prop} (h : p) : Hid p := h
theorem unhide {p : Prop} (h : Hid p) : p := h.out
theorem ret_int {k : IntKind} {a b : Int} (h : a = b) : Ending.returned (.int k a) = .returned (.int k b) := by rw [h]

set_option maxHeartbeats 400000 in
theorem eightTimes_any (n : Nat) (w : World) (h1 : n < 65536) :
    Calls Try.prog 63 #[.int .i64 n] w fun e w' => e = .returned (.int .i64 (M.crcs 8 n)) ∧ w = w' := by
  go_enter Try.func63, Try.ntmps63
  go_wp2
  go_loop [0, 3, 4] (fun v k _ => ∃ j x : Nat, j ≤ 8 ∧ k = .int .i64 j ∧ v = .int .i64 x ∧ Hid (x = M.crcs j n) ∧ x < 65536) (fun _ k _ => 8 - (intOf k).toNat)
  case atStart => exact ⟨0, n, by omega, rfl, rfl, rfl, h1⟩
  case round =>
    obtain ⟨j, x, hj, rfl, rfl, hx, hx1⟩ := hrel
    by_cases hlt : j < 8
    · have hl := M.crcBit_lt hx1
      have HC : Hid (M.crcBit x = M.crcs (j + 1) n) := by rw [hx.out]; rfl
      by_cases hg : 32768 ≤ x
      · have HE : Hid (((M.crcBit x : Nat) : Int) = bits BinOp.xor IntKind.i64 (x * 2 % 65536) 4129) := by
          have e := M.xor_i64 (x * 2 % 65536) 4129 (by omega) (by omega)
          have e2 : M.crcBit x = (x * 2 % 65536) ^^^ 4129 := if_pos hg
          rw [e2, ← e]; rfl
        have hg' : (32768 : Int) ≤ (x : Int) := by omega
        have HL : Hid (M.crcBit x < 65536) := hl
        clear hg hl
        go_wp2
        go_round
        case rel => exact ⟨j + 1, M.crcBit x, by omega, by go_num, by rw [HE.out], HC, HL⟩
        case measure => simp [intOf]; omega
      · have HE : Hid (((M.crcBit x : Nat) : Int) = (x * 2 % 65536)) := by
          have e2 : M.crcBit x = x * 2 % 65536 := if_neg hg
          rw [e2]; rfl
        have hg' : ¬ (32768 : Int) ≤ (x : Int) := by omega
        have HL : Hid (M.crcBit x < 65536) := hl
        clear hg hl
        go_wp2
        go_round
        case rel => exact ⟨j + 1, M.crcBit x, by omega, by go_num, by rw [HE.out], HC, HL⟩
        case measure => simp [intOf]; omega
    · go_wp2
      go_ret
      have : j = 8 := by omega
      subst this
      exact ⟨ret_int (by rw [hx.out]), rfl⟩

set_option maxHeartbeats 400000 in
theorem sumOf_any (s : ByteArray) (w : World) (hs : s.size ≤ maxLen) :
    Calls Try.prog 38 #[.string s] w fun e w' => e = .returned (.int .i64 (M.crc s.data.toList)) ∧ w = w' := by
  unfold maxLen at hs
  go_enter Try.func38, Try.ntmps38
  go_wp2
  go_loop [3, 4] (fun v k => ∃ j x : Nat, j ≤ s.size ∧ k = .int .i64 j ∧ v = .int .i64 x ∧ Hid (x = M.crc (s.data.toList.take j)) ∧ x < 65536) (fun _ k => s.size - (intOf k).toNat)
  case atStart => exact ⟨0, 65535, by omega, rfl, rfl, rfl, by omega⟩
  case round =>
    obtain ⟨j, x, hj, rfl, rfl, hx, hx1⟩ := hrel
    by_cases hlt : j < s.size
    · have hb : s[j].toNat < 256 := s[j].toNat_lt
      have hm := M.mix_lt hx1 hb
      have HE : Hid (bits BinOp.xor IntKind.i64 (x : Int) ((s[j].toNat : Int) * 256) = ((x ^^^ s[j].toNat * 256 : Nat) : Int)) := by
        have e := M.xor_i64 x (s[j].toNat * 256) (by omega) (by omega)
        rw [← e]; rfl
      have HC : Hid (M.crcs 8 (x ^^^ s[j].toNat * 256) = M.crc (s.data.toList.take (j + 1))) := by
        have e : s.data.toList.take (j + 1) = s.data.toList.take j ++ [s[j]] := by
          rw [List.take_succ_eq_append_getElem (by simpa using hlt)]; rfl
        rw [e, M.crc_snoc, ← hx.out]; rfl
      have hl := M.crcs_lt hm 8
      go_wp2_with fail
      rw [HE.out]
      refine (eightTimes_any _ _ hm).mono ?_
      rintro e w' ⟨rfl, rfl⟩
      go_wp2
      go_round
      case rel => exact ⟨j + 1, _, by omega, by go_num, rfl, HC, hl⟩
      case measure => simp [intOf]; omega
    · go_wp2
      go_ret
      have : j = s.size := by omega
      subst this
      exact ⟨ret_int (by rw [hx.out, List.take_of_length_le (by simp)]), rfl⟩

theorem slotsSum_any (s : ByteArray) (w : World) (hs : s.size ≤ maxLen) :
    Calls Try.prog 12 #[.string s] w fun e w' => e = .returned (.int .i64 (M.crc s.data.toList)) ∧ w = w' := by
  go_enter Try.func12, Try.ntmps12
  go_wp2_with fail
  refine (sumOf_any s _ hs).mono ?_
  rintro e w' ⟨rfl, rfl⟩
  go_wp2
  go_ret
  exact ⟨rfl, rfl⟩
end Go.Proofs.Ytjfmiomopfjecaa

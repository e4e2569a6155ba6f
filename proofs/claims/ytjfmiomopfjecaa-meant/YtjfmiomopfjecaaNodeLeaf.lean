/- slotskeep's small functions on nets. -/
import Derived.Test.YtjfmiomopfjecaaNetLeaf
import Derived.Test.YtjfmiomopfjecaaNodeMath
import Derived.Deep.RegionHeld3
import Derived.Deep.QuietTactic
import Derived.BigQuiet
namespace Go.Proofs.Ytjfmiomopfjecaa
open Go.RowKit

theorem kPick_any (c : Int) (n : Nat) (w : World) (h0 : -9223372036854775808 ≤ c) (h1 : c ≤ 9223372036854775807) (hn : 1 ≤ n) (hn2 : n ≤ 1000000) :
    Calls Try.prog 23 #[.int .i64 c, .int .i64 n] w fun e w' => e = .returned (.int .i64 (M.pk c n)) ∧ w = w' := by
  by_cases hc : c < 0
  · have HE : Hid ((M.pk c n : Int) = -(c + 1) % (n : Int)) := by
      show ((M.pk c n : Nat) : Int) = _
      unfold M.pk
      rw [if_pos hc, Int.toNat_of_nonneg (Int.emod_nonneg _ (by omega))]
    go_enter Try.func23, Try.ntmps23
    go_wp2
    go_ret
    exact ⟨ret_int (by rw [HE.out, ← Int.neg_tmod, Int.tmod_eq_emod_of_nonneg (by omega)]), rfl⟩
  · have HE : Hid ((M.pk c n : Int) = c % (n : Int)) := by
      show ((M.pk c n : Nat) : Int) = _
      unfold M.pk
      rw [if_neg hc, Int.toNat_of_nonneg (Int.emod_nonneg _ (by omega))]
    go_enter Try.func23, Try.ntmps23
    go_wp2
    go_ret
    exact ⟨ret_int HE.out.symm, rfl⟩

/-- the first n bytes, or all -/
def fstT (s : ByteArray) (n : Nat) : ByteArray := M.bytesOf (M.fillL s (min n s.size))
theorem fstT_cut {s : ByteArray} {n : Nat} (h : n < s.size) : s.extract 0 n = fstT s n := by
  unfold fstT
  rw [Nat.min_eq_left (by omega)]
  conv => lhs; rw [M.bytesOf_bz s, M.bytesOf_extract]
  congr 1
  unfold M.fillL
  rw [List.drop_zero, ← List.map_take, List.take_range]
  congr 2
  omega
theorem fstT_all {s : ByteArray} {n : Nat} (h : ¬ n < s.size) : s = fstT s n := by
  unfold fstT
  rw [Nat.min_eq_right (by omega)]
  exact M.bytesOf_bz s
theorem fstT_size (s : ByteArray) (n : Nat) : (fstT s n).size = min n s.size := by
  unfold fstT
  rw [M.bytesOf_size, M.fillL_length]
theorem fstT_bz (s : ByteArray) (n i : Nat) (h : i < n) : M.bz (fstT s n) i = M.bz s i := by
  unfold fstT
  rw [M.bz_bytesOf (M.fillL_all _ _)]
  by_cases hi : i < s.size
  · rw [M.fillL_getD _ _ _ (by omega)]
  · rw [M.bz_out s i (by omega), List.getD_eq_getElem?_getD, List.getElem?_eq_none (by rw [M.fillL_length]; omega)]
    rfl
theorem kFirst_any (s : ByteArray) (n : Nat) (w : World) (_hs : s.size ≤ maxLen) (hn : n ≤ 1000000) :
    Calls Try.prog 21 #[.string s, .int .i64 n] w fun e w' => e = .returned (.string (fstT s n)) ∧ w = w' := by
  unfold maxLen at _hs
  by_cases h : n < s.size
  · have HE := hide (fstT_cut h)
    go_enter Try.func21, Try.ntmps21
    go_wp2
    go_ret
    exact ⟨ret_string HE.out, rfl⟩
  · have HE := hide (fstT_all h)
    go_enter Try.func21, Try.ntmps21
    go_wp2
    go_ret
    exact ⟨ret_string HE.out, rfl⟩

theorem oneRun (w : World) (v : Nat) :
    (convert 63 9 (.slice (some ⟨w.heap.size, 0, none⟩) 1 1)).run Try.prog (w.alloc (.cells #[.int .u8 (v : Int)] 5)) =
      .ok (.string (M.bytesOf [v])) (w.alloc (.cells #[.int .u8 (v : Int)] 5)) := by
  have h := text_run w [(v : Int)] 1 rfl
  simpa [M.bytesOf] using h
theorem kOne_any (v : Nat) (w : World) (hv : v ≤ 255) :
    Calls Try.prog 24 #[.int .i64 v] w fun e w' => e = .returned (.string (M.bytesOf [v])) ∧ Below w.heap.size w w' := by
  have hr := oneRun w v
  have ha : bits BinOp.and IntKind.i64 (v : Int) 255 = (v : Int) := by
    have e := M.and_i64 v 255 (by omega) (by omega)
    refine Eq.trans e ?_
    rw [show (255 : Nat) = 2 ^ 8 - 1 from rfl, Nat.and_two_pow_sub_one_eq_mod, Nat.mod_eq_of_lt (by omega)]
  go_enter Try.func24, Try.ntmps24
  go_wp2
  go_ret
  exact ⟨rfl, (Below.refl _ _).alloc (Nat.le_refl _) _⟩

theorem nul_bytes : (⟨#[0]⟩ : ByteArray) = M.bytesOf [0] := rfl
theorem kFill_any (s : ByteArray) (n : Nat) (w : World) (hs : s.size ≤ maxLen) (hn : n ≤ 1000) :
    Calls Try.prog 53 #[.string s, .int .i64 n] w fun e w' => e = .returned (.string (M.bytesOf (M.fillL s n))) ∧ w = w' := by
  go_enter Try.func53, Try.ntmps53
  go_wp2_with fail
  refine (kFirst_any s n _ hs (by omega)).mono ?_
  rintro e w' ⟨rfl, rfl⟩
  have H0 : Hid (fstT s n = M.bytesOf (M.fillL s (min n s.size))) := rfl
  have hz := fstT_size s n
  generalize fstT s n = t0 at *
  have hz1 : t0.size ≤ n := by omega
  have HZ := hide hz
  clear hz
  go_wp2_with fail
  go_loop [5] (fun v => ∃ (k : Nat) (t : ByteArray), min n s.size ≤ k ∧ k ≤ n ∧ v = .string t ∧ Hid (t = M.bytesOf (M.fillL s k)) ∧ k ≤ t.size ∧ t.size ≤ k) (fun v => match v with | .string t => n - t.size | _ => 0)
  case atStart => exact ⟨min n s.size, t0, Nat.le_refl _, by omega, rfl, H0, by rw [HZ.out]; exact Nat.le_refl _, by rw [HZ.out]; exact Nat.le_refl _⟩
  case round =>
    obtain ⟨k, t, hk0, hk, rfl, ht, ht1, ht2⟩ := hrel
    by_cases hlt : k < n
    · have HS : Hid (t ++ ⟨#[0]⟩ = M.bytesOf (M.fillL s (k + 1))) := by
        rw [M.fillL_succ, ← M.bytesOf_append, ← ht.out, M.bz_out s k (by omega), nul_bytes]; rfl
      have HL : Hid ((t ++ (⟨#[0]⟩ : ByteArray)).size = k + 1) := by
        rw [HS.out, M.bytesOf_size, M.fillL_length]; rfl
      go_wp2
      go_round
      case rel => exact ⟨k + 1, _, by omega, by omega, rfl, HS, Nat.le_of_eq HL.out.symm, Nat.le_of_eq HL.out⟩
      case measure => show n - (t ++ (⟨#[0]⟩ : ByteArray)).size < n - t.size; rw [HL.out]; omega
    · have hkn : k = n := by omega
      subst hkn
      go_wp2
      go_ret
      exact ⟨ret_string ht.out, rfl⟩

theorem kSigned_any (l : List Nat) (w : World) (hl : l.length = 2) (ha : M.AllB l) :
    Calls Try.prog 29 #[.string (M.bytesOf l)] w fun e w' => e = .returned (.int .i64 (M.wordVal ((l.getD 0 0 : Int) * 256 + (l.getD 1 0 : Nat)))) ∧ Below w.heap.size w w' := by
  have hz : (M.bytesOf l).size = 2 := by rw [M.bytesOf_size, hl]
  have e0 := M.bz_bytesOf ha 0
  have e1 := M.bz_bytesOf ha 1
  have p0 : 0 < (M.bytesOf l).size := by omega
  have p1 : 1 < (M.bytesOf l).size := by omega
  rw [← M.bz_at _ _ p0] at e0
  rw [← M.bz_at _ _ p1] at e1
  rw [← e0, ← e1]
  clear e0 e1
  generalize M.bytesOf l = s at *
  have q0 : (s[0]'p0).toNat < 256 := UInt8.toNat_lt _
  have q1 : (s[1]'p1).toNat < 256 := UInt8.toNat_lt _
  have i0 : (0 : Int) < (s.size : Int) := by omega
  have i1 : (1 : Int) < (s.size : Int) := by omega
  have hw0 : IntKind.i64.wrap ((s[0]'p0).toNat : Int) = ((s[0]'p0).toNat : Int) := IntWalk.i64_in _ ⟨by omega, by omega⟩
  have hw1 : IntKind.i64.wrap ((s[1]'p1).toNat : Int) = ((s[1]'p1).toNat : Int) := IntWalk.i64_in _ ⟨by omega, by omega⟩
  have hw2 : IntKind.i64.wrap (((s[0]'p0).toNat : Int) * 256) = ((s[0]'p0).toNat : Int) * 256 := IntWalk.i64_in _ ⟨by omega, by omega⟩
  have hw3 : IntKind.i64.wrap (((s[0]'p0).toNat : Int) * 256 + ((s[1]'p1).toNat : Int)) = ((s[0]'p0).toNat : Int) * 256 + ((s[1]'p1).toNat : Int) := IntWalk.i64_in _ ⟨by omega, by omega⟩
  have HW := hide (show M.wordVal (((s[0]'p0).toNat : Int) * 256 + ((s[1]'p1).toNat : Int)) = if 32767 < ((s[0]'p0).toNat : Int) * 256 + ((s[1]'p1).toNat : Int) then ((s[0]'p0).toNat : Int) * 256 + ((s[1]'p1).toNat : Int) - 65536 else ((s[0]'p0).toNat : Int) * 256 + ((s[1]'p1).toNat : Int) from rfl)
  clear hz hl ha
  go_enter Try.func29, Try.ntmps29
  go_wp2_with fail
  go_quiet (fail)
  clear hw0 hw1 hw2 hw3
  by_cases hc : 32767 < ((s[0]'p0).toNat : Int) * 256 + ((s[1]'p1).toNat : Int)
  · have HE := hide (HW.out.trans (if_pos hc))
    go_wp2
    go_ret
    exact ⟨ret_int HE.out.symm, below_drewN (Below.refl _ _) _⟩
  · have HE := hide (HW.out.trans (if_neg hc))
    go_wp2
    go_ret
    exact ⟨ret_int HE.out.symm, below_drewN (Below.refl _ _) _⟩
theorem kClip_any (v : Int) (w : World) :
    Calls Try.prog 54 #[.int .i64 v] w fun e w' => e = .returned (.int .i64 (M.clip v)) ∧ w = w' := by
  have HE := hide (show M.clip v = if v < -32768 then -32768 else if 32767 < v then 32767 else v from rfl)
  go_enter Try.func54, Try.ntmps54
  go_wp2
  all_goals go_ret
  all_goals refine ⟨ret_int ?_, rfl⟩
  all_goals rw [HE.out]
  all_goals repeat' split
  all_goals omega
theorem kHalf_any (x : Int) (b : Nat) (w : World) (hx : M.IsVal x) (hb : b ≤ 255) :
    Calls Try.prog 55 #[.int .i64 x, .int .i64 b] w fun e w' => e = .returned (.int .i64 (x / 2 ^ b)) ∧ w = w' := by
  go_enter Try.func55, Try.ntmps55
  go_wp2
  go_loop [0, 5] (fun v c => ∃ (j : Nat) (y : Int), j ≤ b ∧ c = .int .i64 j ∧ v = .int .i64 y ∧ Hid (y = x / 2 ^ j) ∧ -32768 ≤ y ∧ y ≤ 32767) (fun _ c => b - (intOf c).toNat)
  case atStart => exact ⟨0, x, by omega, rfl, rfl, by show x = _; simp, hx.1, hx.2⟩
  case round =>
    obtain ⟨j, y, hj, rfl, rfl, hy, hy0, hy1⟩ := hrel
    by_cases hlt : j < b
    · have HE : Hid (y / 2 = x / 2 ^ (j + 1)) := by rw [hy.out, over_succ]; rfl
      by_cases hn : y < 0
      · have HH := hide (half_neg y hn)
        go_wp2
        go_round
        case rel => exact ⟨j + 1, y / 2, by omega, by go_num, by rw [HH.out], HE, by omega, by omega⟩
        case measure => simp [intOf]; omega
      · go_wp2
        go_round
        case rel => exact ⟨j + 1, y / 2, by omega, by go_num, rfl, HE, by omega, by omega⟩
        case measure => simp [intOf]; omega
    · have : j = b := by omega
      subst this
      go_wp2
      go_ret
      exact ⟨ret_int (by rw [hy.out]), rfl⟩
/-- what a node of kind op makes of x and y (for Const nothing is promised) -/
def doesV (op : Nat) (x y : Int) (b : Nat) : Int := if op = 6 then x / 2 ^ b else if op = 0 then M.mx x 0 else M.nodeDo op x y 0 0
theorem kDoes_any (op : Nat) (x y : Int) (b : Nat) (w : World) (hx : M.IsVal x) (hy : M.IsVal y) (hop : op ≤ 7) (hb : b ≤ 15) :
    Calls Try.prog 28 #[.int .i64 op, .int .i64 x, .int .i64 y, .int .i64 b] w fun e w' => e = .returned (.int .i64 (doesV op x y b)) ∧ w = w' := by
  have hm := M.mul_bd hx hy
  have hx' := hx
  unfold M.IsVal at hx hy
  have hops : op = 0 ∨ op = 1 ∨ op = 2 ∨ op = 3 ∨ op = 4 ∨ op = 5 ∨ op = 6 ∨ op = 7 := by omega
  rcases hops with rfl | rfl | rfl | rfl | rfl | rfl | rfl | rfl
  · have HE : Hid (doesV 0 x y b = if 0 < x then x else 0) := rfl
    by_cases h : x < 0
    · go_enter Try.func28, Try.ntmps28
      go_wp2
      go_ret
      exact ⟨ret_int (by rw [HE.out, if_neg (by omega)]), rfl⟩
    · go_enter Try.func28, Try.ntmps28
      go_wp2
      go_ret
      exact ⟨ret_int (by rw [HE.out]; split <;> omega), rfl⟩
  · have HE : Hid (doesV 1 x y b = M.clip (x + y)) := rfl
    go_enter Try.func28, Try.ntmps28
    go_wp2_with fail
    refine (kClip_any _ _).mono ?_
    rintro e w' ⟨rfl, rfl⟩
    go_wp2
    go_ret
    exact ⟨ret_int HE.out.symm, rfl⟩
  · have HE : Hid (doesV 2 x y b = M.clip (x - y)) := rfl
    go_enter Try.func28, Try.ntmps28
    go_wp2_with fail
    refine (kClip_any _ _).mono ?_
    rintro e w' ⟨rfl, rfl⟩
    go_wp2
    go_ret
    exact ⟨ret_int HE.out.symm, rfl⟩
  · have HE : Hid (doesV 3 x y b = M.clip (x * y)) := rfl
    go_enter Try.func28, Try.ntmps28
    go_wp2_with fail
    refine (kClip_any _ _).mono ?_
    rintro e w' ⟨rfl, rfl⟩
    go_wp2
    go_ret
    exact ⟨ret_int HE.out.symm, rfl⟩
  · have HE : Hid (doesV 4 x y b = if y < x then x else y) := rfl
    by_cases h : x < y
    · go_enter Try.func28, Try.ntmps28
      go_wp2
      go_ret
      exact ⟨ret_int (by rw [HE.out, if_neg (by omega)]), rfl⟩
    · go_enter Try.func28, Try.ntmps28
      go_wp2
      go_ret
      exact ⟨ret_int (by rw [HE.out]; split <;> omega), rfl⟩
  · have HE : Hid (doesV 5 x y b = if x < y then x else y) := rfl
    by_cases h : x < y
    · go_enter Try.func28, Try.ntmps28
      go_wp2
      go_ret
      exact ⟨ret_int (by rw [HE.out, if_pos h]), rfl⟩
    · go_enter Try.func28, Try.ntmps28
      go_wp2
      go_ret
      exact ⟨ret_int (by rw [HE.out, if_neg (by omega)]), rfl⟩
  · have HE : Hid (doesV 6 x y b = x / 2 ^ b) := rfl
    go_enter Try.func28, Try.ntmps28
    go_wp2_with fail
    refine (kHalf_any _ _ _ hx' (by omega)).mono ?_
    rintro e w' ⟨rfl, rfl⟩
    go_wp2
    go_ret
    exact ⟨ret_int HE.out.symm, rfl⟩
  · have HE : Hid (doesV 7 x y b = if 0 < x then x else 0) := rfl
    by_cases h : x < 0
    · go_enter Try.func28, Try.ntmps28
      go_wp2
      go_ret
      exact ⟨ret_int (by rw [HE.out, if_neg (by omega)]), rfl⟩
    · go_enter Try.func28, Try.ntmps28
      go_wp2
      go_ret
      exact ⟨ret_int (by rw [HE.out]; split <;> omega), rfl⟩
end Go.Proofs.Ytjfmiomopfjecaa

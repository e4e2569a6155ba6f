/- Texts laid together: KeepSum, KeepTwo, KeepSeal, KeepMan, DiffMath, KeepPatch, KeepBegin. -/
import Derived.Test.YtjfmiomopfjecabGreatWk
import Derived.Test.YtjfmiomopfjecabGreatWj
import Derived.Test.YtjfmiomopfjecabGreatWa
import Derived.Test.YtjfmiomopfjecabGreatWh
import Derived.Test.YtjfmiomopfjecabGreatWg
import Derived.Test.YtjfmiomopfjecabGreatWb
import Derived.Test.YtjfmiomopfjecabGreatWc
import Derived.Test.YtjfmiomopfjecabGreatWd
import Derived.Test.YtjfmiomopfjecabGreatWe
import Derived.Test.YtjfmiomopfjecabGreatWf
import Derived.Test.YtjfmiomopfjecabGreatWi
/- The laws' own sum, bit by bit. -/
namespace Go.Proofs.YtjfmiomopfjecabGreat
open Go.RowKit

theorem dbl_bit (x i : Nat) : (2 * x).testBit i = (decide (0 < i) && x.testBit (i - 1)) := by
  cases i with
  | zero => simp [Nat.testBit_zero]
  | succ i =>
    rw [Nat.testBit_succ, show 2 * x / 2 = x from by omega]
    simp
theorem dbl_xor (n y : Nat) : (n ^^^ y) * 2 % 65536 = (2 * n % 65536) ^^^ (2 * y % 65536) := by
  rw [show (n ^^^ y) * 2 = 2 * (n ^^^ y) from by omega, show (65536 : Nat) = 2 ^ 16 from rfl]
  apply Nat.eq_of_testBit_eq
  intro i
  rw [Nat.testBit_xor, Nat.testBit_mod_two_pow, Nat.testBit_mod_two_pow, Nat.testBit_mod_two_pow, dbl_bit, dbl_bit, dbl_bit, Nat.testBit_xor]
  cases decide (i < 16) <;> cases decide (0 < i) <;> simp
/-- one bit more: n is the register, y the bits of the byte that are to come, b the first of them -/
def bitUp (n b : Nat) : Nat := if b ^^^ (n / 32768) = 1 then (2 * n % 65536) ^^^ 4129 else 2 * n % 65536
theorem bitUp_lt {n b : Nat} : bitUp n b < 65536 := by
  unfold bitUp
  split
  · exact Nat.xor_lt_two_pow (n := 16) (by omega) (by omega)
  · omega
theorem bitUp_is {n y : Nat} (hn : n < 65536) (hy : y < 65536) : M.crcBit (n ^^^ y) = bitUp n (y / 32768) ^^^ (2 * y % 65536) := by
  have hx : n ^^^ y < 65536 := Nat.xor_lt_two_pow (n := 16) hn hy
  have ht := M.top _ hx
  rw [Nat.testBit_xor, M.top _ hn, M.top _ hy] at ht
  have hc : (32768 ≤ n ^^^ y) ↔ (y / 32768) ^^^ (n / 32768) = 1 := by
    by_cases a : 32768 ≤ n <;> by_cases c : 32768 ≤ y
    · have e1 : n / 32768 = 1 := by omega
      have e2 : y / 32768 = 1 := by omega
      rw [e1, e2]; simp [a, c] at ht; simp; omega
    · have e1 : n / 32768 = 1 := by omega
      have e2 : y / 32768 = 0 := by omega
      rw [e1, e2]; simp [a, c] at ht; simp; omega
    · have e1 : n / 32768 = 0 := by omega
      have e2 : y / 32768 = 1 := by omega
      rw [e1, e2]; simp [a, c] at ht; simp; omega
    · have e1 : n / 32768 = 0 := by omega
      have e2 : y / 32768 = 0 := by omega
      rw [e1, e2]; simp [a, c] at ht; simp; omega
  unfold M.crcBit bitUp
  rw [dbl_xor]
  by_cases h : 32768 ≤ n ^^^ y
  · rw [if_pos h, if_pos (hc.1 h), Nat.xor_assoc, Nat.xor_assoc, Nat.xor_comm 4129]
  · rw [if_neg h, if_neg fun k => h (hc.2 k)]
/-- behind m bits of the byte c -/
def bitsUp (n c : Nat) : Nat → Nat
  | 0 => n
  | m + 1 => bitUp (bitsUp n c m) (c / 2 ^ (7 - m) % 2)
theorem bitsUp_lt {n c : Nat} (hn : n < 65536) (m : Nat) : bitsUp n c m < 65536 := by
  cases m with
  | zero => exact hn
  | succ m => exact bitUp_lt
theorem bitsUp_is {n c : Nat} (hn : n < 65536) (hc : c < 256) : ∀ m, m ≤ 8 → M.crcs m (n ^^^ c * 256) = bitsUp n c m ^^^ (c * 2 ^ (8 + m) % 65536) := by
  intro m
  induction m with
  | zero => intro _; show n ^^^ c * 256 = n ^^^ (c * 256 % 65536); rw [Nat.mod_eq_of_lt (by omega)]
  | succ m ih =>
    intro hm
    rw [M.crcs_succ, ih (by omega), bitUp_is (bitsUp_lt hn m) (by omega)]
    have hm' : m = 0 ∨ m = 1 ∨ m = 2 ∨ m = 3 ∨ m = 4 ∨ m = 5 ∨ m = 6 ∨ m = 7 := by omega
    have e1 : c * 2 ^ (8 + m) % 65536 / 32768 = c / 2 ^ (7 - m) % 2 := by rcases hm' with rfl | rfl | rfl | rfl | rfl | rfl | rfl | rfl <;> simp <;> omega
    have e2 : 2 * (c * 2 ^ (8 + m) % 65536) % 65536 = c * 2 ^ (8 + (m + 1)) % 65536 := by rcases hm' with rfl | rfl | rfl | rfl | rfl | rfl | rfl | rfl <;> simp <;> omega
    rw [e1, e2]
    rfl
theorem bitsUp_all {n c : Nat} (hn : n < 65536) (hc : c < 256) : bitsUp n c 8 = M.crcByte n c := by
  have h := bitsUp_is hn hc 8 (by omega)
  rw [show c * 2 ^ (8 + 8) % 65536 = 0 from by simp, Nat.xor_zero] at h
  exact h.symm
theorem crc_take (s : ByteArray) (k : Nat) (h : k < s.size) : M.crc (s.data.toList.take (k + 1)) = M.crcByte (M.crc (s.data.toList.take k)) (s[k]'h).toNat := by
  have e : s.data.toList.take (k + 1) = s.data.toList.take k ++ [s[k]'h] := by
    rw [List.take_succ_eq_append_getElem (by simpa using h)]
    rfl
  rw [e, M.crc_snoc]
theorem and_all (a : Nat) (h : a < 9223372036854775808) : bits BinOp.and IntKind.i64 (a : Int) 65535 = ((a % 65536 : Nat) : Int) := by
  refine (M.and_i64 a 65535 h (by omega)).trans ?_
  rw [show (65535 : Nat) = 2 ^ 16 - 1 from rfl, Nat.and_two_pow_sub_one_eq_mod]
set_option maxHeartbeats 1000000 in
theorem kSum_any (s : ByteArray) (w : World) (hs : s.size ≤ 1048576) :
    Calls Tryz.prog 41 #[.string s] w fun e w' => e = .returned (.int .i64 (M.crc s.data.toList)) ∧ w = w' := by
  go_enter Tryz.func41, Tryz.ntmps41
  go_wp2_with fail
  go_loopw [3, 4, 5, 6] (fun n i _ _ wr => ∃ k : Nat, k ≤ s.size ∧ i = .int .i64 k ∧ n = .int .i64 (M.crc (s.data.toList.take k)) ∧ w = wr) (fun _ i _ _ _ => s.size - (intOf i).toNat)
  case atStart => exact ⟨0, by omega, rfl, rfl, rfl⟩
  case round =>
    obtain ⟨k, hk, rfl, rfl, rfl⟩ := hrel
    by_cases hlt : k < s.size
    · have HE := hide (crc_take s k hlt)
      have hq := M.crc_lt (s.data.toList.take k)
      generalize M.crc (s.data.toList.take k) = N at *
      have hcl : (s[k]'hlt).toNat < 256 := UInt8.toNat_lt _
      generalize hc : (s[k]'hlt).toNat = c at *
      have HAll := hide (bitsUp_all (n := N) (c := c) hq hcl)
      go_wp2_with fail
      go_loopw [3, 5, 6] (fun n kk _ wr => ∃ m : Nat, m ≤ 8 ∧ kk = .int .i64 (7 - (m : Int)) ∧ n = .int .i64 (bitsUp N c m) ∧ w = wr) (fun _ kk _ _ => (intOf kk + 1).toNat)
      case atStart => exact ⟨0, by omega, rfl, rfl, rfl⟩
      case round =>
        obtain ⟨m, hm, rfl, rfl, rfl⟩ := hrel
        by_cases hm8 : m < 8
        · have hl := bitsUp_lt (c := c) hq m
          have HU : Hid (bitsUp N c (m + 1) = bitUp (bitsUp N c m) (c / 2 ^ (7 - m) % 2)) := rfl
          generalize bitsUp N c m = q at *
          have hd : c / 2 ^ (7 - m) ≤ c := Nat.div_le_self _ _
          have hb1 : bits BinOp.and IntKind.i64 ((c : Int) / 2 ^ (7 - m)) 1 = ((c / 2 ^ (7 - m) % 2 : Nat) : Int) := by
            have e := M.and_i64 (c / 2 ^ (7 - m)) 1 (by omega) (by omega)
            rw [Nat.and_one_is_mod] at e
            have e2 : ((c / 2 ^ (7 - m) : Nat) : Int) = (c : Int) / 2 ^ (7 - m) := by simp
            rw [e2] at e
            exact e
          have hx : bits BinOp.xor IntKind.i64 ((c / 2 ^ (7 - m) % 2 : Nat) : Int) ((q : Int) / 32768) = (((c / 2 ^ (7 - m) % 2) ^^^ (q / 32768) : Nat) : Int) := by
            have e := M.xor_i64 (c / 2 ^ (7 - m) % 2) (q / 32768) (by omega) (by omega)
            have e2 : ((q / 32768 : Nat) : Int) = (q : Int) / 32768 := by simp
            rw [e2] at e
            exact e
          have ha : bits BinOp.and IntKind.i64 (2 * (q : Int)) 65535 = ((2 * q % 65536 : Nat) : Int) := by
            have e := and_all (2 * q) (by omega)
            have e2 : ((2 * q : Nat) : Int) = 2 * (q : Int) := by omega
            rw [e2] at e
            exact e
          have hy : bits BinOp.xor IntKind.i64 ((2 * q % 65536 : Nat) : Int) 4129 = (((2 * q % 65536) ^^^ 4129 : Nat) : Int) := M.xor_i64 (2 * q % 65536) 4129 (by omega) (by omega)
          have h16 : 2 * q % 65536 < 65536 := by omega
          unfold bitUp at HU
          clear hd
          generalize c / 2 ^ (7 - m) % 2 = b0 at *
          generalize b0 ^^^ q / 32768 = B at *
          generalize 2 * q % 65536 = q2 at *
          generalize q2 ^^^ 4129 = q3 at *
          by_cases hB : B = 1
          · rw [if_pos hB] at HU
            subst hB
            have hx' : bits BinOp.xor IntKind.i64 (b0 : Int) ((q : Int) / 32768) = 1 := hx
            clear hx
            go_wp2
            go_roundw
            case rel => exact ⟨m + 1, by omega, by go_num, by rw [HU.out], trivial⟩
            case measure => simp [intOf]; omega
          · rw [if_neg hB] at HU
            have hB' : ¬ (B : Int) = 1 := by omega
            go_wp2
            go_roundw
            case rel => exact ⟨m + 1, by omega, by go_num, by rw [HU.out], trivial⟩
            case measure => simp [intOf]; omega
        · have e8 : m = 8 := by omega
          subst e8
          rw [HAll.out]
          go_wp2
          go_roundw
          case rel => exact ⟨k + 1, by omega, by go_num, by rw [HE.out], trivial⟩
          case measure => simp [intOf]; omega
    · have e : k = s.size := by omega
      subst e
      have HT : Hid (M.crc (s.data.toList.take s.size) = M.crc s.data.toList) := by
        show _ = _
        rw [List.take_of_length_le (by simp)]
      rw [HT.out]
      generalize hxx : M.crc s.data.toList = x at *
      go_wp2
      go_ret
      exact ⟨ret_int (by rw [hxx]), rfl⟩
end Go.Proofs.YtjfmiomopfjecabGreat

/- Small functions of the laws: two bytes of a number, a number within bounds. -/
namespace Go.Proofs.YtjfmiomopfjecabGreat
open Go.RowKit Go.Lib

theorem kOne_mod (v : Nat) (w : World) (hv : v ≤ 65535) :
    Calls Tryz.prog 40 #[.int .i64 v] w fun e w' => e = .returned (.string (M.bytesOf [v % 256])) ∧ Below w.heap.size w w' := by
  have hr := oneRun w (v % 256)
  have ha : bits BinOp.and IntKind.i64 (v : Int) 255 = ((v % 256 : Nat) : Int) := by
    refine (M.and_i64 v 255 (by omega) (by omega)).trans ?_
    rw [show (255 : Nat) = 2 ^ 8 - 1 from rfl, Nat.and_two_pow_sub_one_eq_mod]
  have hlt : v % 256 < 256 := by omega
  generalize v % 256 = u at *
  go_enter Tryz.func40, Tryz.ntmps40
  go_wp2
  go_ret
  exact ⟨rfl, (Below.refl _ _).alloc (Nat.le_refl _) _⟩
theorem kTwo_any (v : Nat) (w : World) (hv : v ≤ 65535) :
    Calls Tryz.prog 39 #[.int .i64 v] w fun e w' => e = .returned (.string (M.bytesOf [v / 256, v % 256])) ∧ Below w.heap.size w w' := by
  have HV : Hid ((v : Int) / 256 = ((v / 256 : Nat) : Int)) := by show _ = _; omega
  have HT : Hid (M.bytesOf [v / 256 % 256] ++ M.bytesOf [v % 256] = M.bytesOf [v / 256, v % 256]) := by
    show _ = _
    rw [M.bytesOf_append, Nat.mod_eq_of_lt (by omega)]
    rfl
  go_enter Tryz.func39, Tryz.ntmps39
  go_wp2_with fail
  rw [HV.out]
  refine (kOne_mod (v / 256) _ (by omega)).mono ?_
  rintro e w1 ⟨rfl, hb1⟩
  go_wp2_with fail
  refine (kOne_mod v _ hv).mono ?_
  rintro e w2 ⟨rfl, hb2⟩
  have HB := hide (hb1.trans (hb2.mono hb1.size))
  have z1 : (M.bytesOf [v / 256 % 256]).size = 1 := by rw [M.bytesOf_size]; rfl
  have z2 : (M.bytesOf [v % 256]).size = 1 := by rw [M.bytesOf_size]; rfl
  clear hb1 hb2
  generalize M.bytesOf [v / 256 % 256] = x1 at *
  generalize M.bytesOf [v % 256] = x2 at *
  go_wp2
  go_ret
  exact ⟨ret_string HT.out, unhide HB⟩
/-- a number within these bounds -/
def inW (v : Int) (lo hi : Nat) : Nat := if (lo : Int) ≤ v ∧ v ≤ (hi : Int) then v.toNat else lo + M.pk v (hi - lo + 1)
theorem inW_le (v : Int) {lo hi : Nat} (h : lo ≤ hi) : lo ≤ inW v lo hi ∧ inW v lo hi ≤ hi := by
  unfold inW
  split
  · omega
  · have := M.pk_lt v (hi - lo + 1) (by omega)
    omega
theorem kWithin_any (v : Int) (lo hi : Nat) (w : World) (h0 : -9223372036854775808 ≤ v) (h1 : v ≤ 9223372036854775807) (hlh : lo ≤ hi) (hh : hi ≤ 65535) :
    Calls Tryz.prog 25 #[.int .i64 v, .int .i64 lo, .int .i64 hi] w fun e w' => e = .returned (.int .i64 (inW v lo hi)) ∧ w = w' := by
  by_cases a : (lo : Int) ≤ v
  · by_cases c : v ≤ (hi : Int)
    · have HE : Hid ((inW v lo hi : Int) = v) := by show _ = _; unfold inW; rw [if_pos ⟨a, c⟩]; omega
      go_enter Tryz.func25, Tryz.ntmps25
      go_wp2
      go_ret
      exact ⟨ret_int HE.out.symm, rfl⟩
    · have HE : Hid ((inW v lo hi : Int) = (lo : Int) + (M.pk v (hi - lo + 1) : Int)) := by show _ = _; unfold inW; rw [if_neg (by omega)]; omega
      have hp := M.pk_lt v (hi - lo + 1) (by omega)
      have HV : Hid ((hi : Int) - (lo : Int) + 1 = ((hi - lo + 1 : Nat) : Int)) := by show _ = _; omega
      have hc : decide (v ≤ (hi : Int)) = false := decide_eq_false c
      go_enter Tryz.func25, Tryz.ntmps25
      go_wp2_with fail
      rw [HV.out]
      refine (kPick_any v (hi - lo + 1) _ h0 h1 (by omega) (by omega)).mono ?_
      rintro e w' ⟨rfl, rfl⟩
      generalize M.pk v (hi - lo + 1) = q at *
      go_wp2
      go_ret
      exact ⟨ret_int HE.out.symm, rfl⟩
  · have HE : Hid ((inW v lo hi : Int) = (lo : Int) + (M.pk v (hi - lo + 1) : Int)) := by show _ = _; unfold inW; rw [if_neg (by omega)]; omega
    have hp := M.pk_lt v (hi - lo + 1) (by omega)
    have HV : Hid ((hi : Int) - (lo : Int) + 1 = ((hi - lo + 1 : Nat) : Int)) := by show _ = _; omega
    have hc : decide ((lo : Int) ≤ v) = false := decide_eq_false a
    go_enter Tryz.func25, Tryz.ntmps25
    go_wp2_with fail
    rw [HV.out]
    refine (kPick_any v (hi - lo + 1) _ h0 h1 (by omega) (by omega)).mono ?_
    rintro e w' ⟨rfl, rfl⟩
    generalize M.pk v (hi - lo + 1) = q at *
    go_wp2
    go_ret
    exact ⟨ret_int HE.out.symm, rfl⟩
end Go.Proofs.YtjfmiomopfjecabGreat

/- The manifest that the laws seal. -/
namespace Go.Proofs.YtjfmiomopfjecabGreat
open Go.RowKit Go.Lib

/-- the sums of the first k chunks, two bytes each -/
def chL (j : M.Job) : Nat → List Nat
  | 0 => []
  | k + 1 => chL j k ++ [M.crc (M.chunkT j k).data.toList / 256, M.crc (M.chunkT j k).data.toList % 256]
theorem chL_length (j : M.Job) (k : Nat) : (chL j k).length = 2 * k := by
  induction k with
  | zero => rfl
  | succ k ih => unfold chL; rw [List.length_append, ih]; show _ + 2 = _; omega
def headL (j : M.Job) (ba u : Nat) : List Nat := [u / 256, u % 256, ba / 256, ba % 256, j.patch.size, j.now.size, M.crc j.now.data.toList / 256, M.crc j.now.data.toList % 256]
def bodyT (j : M.Job) (ex : ByteArray) (ba u : Nat) : ByteArray := M.bytesOf (headL j ba u ++ chL j (M.chunksN j.patch.size)) ++ ex
def sealedT (j : M.Job) (ex : ByteArray) (ba u : Nat) : ByteArray := bodyT j ex ba u ++ M.bytesOf [M.crc (j.key ++ bodyT j ex ba u).data.toList / 256, M.crc (j.key ++ bodyT j ex ba u).data.toList % 256]
set_option maxRecDepth 10000 in
set_option maxHeartbeats 4000000 in
theorem sealed_any (j : M.Job) (ex : ByteArray) (ba u : Nat) (W : World) (hb : ba ≤ 65535) (hu : u ≤ 65535) (hp : j.patch.size ≤ 96) (hn : j.now.size ≤ 96) (hk : j.key.size ≤ 16) (hx : ex.size ≤ 1000) :
    Calls Tryz.prog 20 #[jobV j ex, .int .i64 ba, .int .i64 u] W fun e w' => e = .returned (.string (sealedT j ex ba u)) ∧ Below W.heap.size W w' := by
  have hcs := M.crc_lt j.now.data.toList
  have HSUM := hide (fun X : World => kSum_any j.now X (by omega))
  have HH : Hid (M.bytesOf [u / 256, u % 256] ++ M.bytesOf [ba / 256, ba % 256] ++ M.bytesOf [j.patch.size] ++ M.bytesOf [j.now.size] ++ M.bytesOf [M.crc j.now.data.toList / 256, M.crc j.now.data.toList % 256] = M.bytesOf (headL j ba u ++ chL j 0)) := by
    show _ = _
    rw [M.bytesOf_append, M.bytesOf_append, M.bytesOf_append, M.bytesOf_append]
    rfl
  generalize hcsn : M.crc j.now.data.toList = cs at *
  have HT1 := hide (fun X : World => kTwo_any u X hu)
  have HT2 := hide (fun X : World => kTwo_any ba X hb)
  have HT3 := hide (fun X : World => kTwo_any cs X (by omega))
  have HO1 := hide (fun X : World => kOne_any j.patch.size X (by omega))
  have HO2 := hide (fun X : World => kOne_any j.now.size X (by omega))
  have z1 : (M.bytesOf [u / 256, u % 256]).size = 2 := by rw [M.bytesOf_size]; rfl
  have z2 : (M.bytesOf [ba / 256, ba % 256]).size = 2 := by rw [M.bytesOf_size]; rfl
  have z3 : (M.bytesOf [cs / 256, cs % 256]).size = 2 := by rw [M.bytesOf_size]; rfl
  have z4 : (M.bytesOf [j.patch.size]).size = 1 := by rw [M.bytesOf_size]; rfl
  have z5 : (M.bytesOf [j.now.size]).size = 1 := by rw [M.bytesOf_size]; rfl
  have HCSN := hide hcsn
  clear hcsn
  generalize M.bytesOf [u / 256, u % 256] = x1 at *
  generalize M.bytesOf [ba / 256, ba % 256] = x2 at *
  generalize M.bytesOf [cs / 256, cs % 256] = x3 at *
  generalize M.bytesOf [j.patch.size] = x4 at *
  generalize M.bytesOf [j.now.size] = x5 at *
  have HBL : Hid (Below W.heap.size W (W.alloc (.cells #[.string j.key, .string j.old, .string j.now, .int .i64 j.base, .int .i64 j.up, .string j.patch, .string ex, .string j.man] 30)).drew) := ((Below.refl _ _).alloc (Nat.le_refl _) _).drew
  have hC := drew_block (last_block W (.cells #[.string j.key, .string j.old, .string j.now, .int .i64 j.base, .int .i64 j.up, .string j.patch, .string ex, .string j.man] 30) rfl)
  have rule2 : ∀ (X : World) (o : Nat), X.heap[W.heap.size]? = some (.cells #[.string j.key, .string j.old, .string j.now, .int .i64 j.base, .int .i64 j.up, .string j.patch, .string ex, .string j.man] 30 (0, 0)) → X.cell? ⟨W.heap.size, o, none⟩ = (#[.string j.key, .string j.old, .string j.now, .int .i64 j.base, .int .i64 j.up, .string j.patch, .string ex, .string j.man] : Array Value)[o]? := fun X o h => cell_in h o
  have hn6 : M.chunksN j.patch.size ≤ 6 := by unfold M.chunksN; omega
  have hz0 : (M.bytesOf (headL j ba u ++ chL j 0)).size = 8 := by rw [M.bytesOf_size, List.length_append, chL_length]; rfl
  have HCS := hide (fun X : World => jobChunks_any j ex X hp)
  have HCK := hide (fun (i : Nat) (hi : i < M.chunksN j.patch.size) (X : World) => jobChunk_any j ex i X hp (by unfold M.chunksN at hi; omega))
  have HKX := hide (And.intro hk hx)
  have HBD : Hid (∀ x, x = M.bytesOf (headL j ba u ++ chL j (M.chunksN j.patch.size)) → x ++ ex = bodyT j ex ba u) := fun x hx => by rw [hx]; rfl
  have HSD : Hid (∀ x c, x = bodyT j ex ba u → M.crc (j.key ++ x).data.toList = c → x ++ M.bytesOf [c / 256, c % 256] = sealedT j ex ba u) := fun x c hx hc => by rw [← hc, hx]; rfl
  have HST : Hid (∀ k, M.bytesOf (headL j ba u ++ chL j k) ++ M.bytesOf [M.crc (M.chunkT j k).data.toList / 256, M.crc (M.chunkT j k).data.toList % 256] = M.bytesOf (headL j ba u ++ chL j (k + 1))) := fun k => by
    rw [M.bytesOf_append, List.append_assoc]; rfl
  have HZL : Hid (∀ k, (M.bytesOf (headL j ba u ++ chL j k)).size = 8 + 2 * k) := fun k => by rw [M.bytesOf_size, List.length_append, chL_length]; rfl
  generalize hnn : M.chunksN j.patch.size = n at *
  clear hb hu hp hn hk hx hcs hnn
  go_enter Tryz.func20, Tryz.ntmps20
  go_wp2_with fail
  go_region_held3 (fun X => X.heap[W.heap.size]? = some (.cells #[.string j.key, .string j.old, .string j.now, .int .i64 j.base, .int .i64 j.up, .string j.patch, .string ex, .string j.man] 30 (0, 0))) (with_reducible exact hC) ((first
    | (go_at_call 39; (first | with_reducible refine (unhide HT1 _).mono ?_ | with_reducible refine (unhide HT2 _).mono ?_ | with_reducible refine (unhide HT3 _).mono ?_); rintro y wN ⟨rfl, hbN⟩; have hC := kept_block hbN hC; have HBL := hide ((unhide HBL).trans (hbN.mono (unhide HBL).size)))
    | (go_at_call 40; (first | with_reducible refine (unhide HO1 _).mono ?_ | with_reducible refine (unhide HO2 _).mono ?_); rintro y wN ⟨rfl, hbN⟩; have hC := kept_block hbN hC; have HBL := hide ((unhide HBL).trans (hbN.mono (unhide HBL).size)))
    | (go_at_call 41; with_reducible refine (unhide HSUM _).mono ?_; rintro y wN ⟨rfl, rfl⟩)))
  all_goals
    rw [HH.out]
    have KJ := hide hC
    clear hC hbN rule2 HT1 HT2 HT3 HO1 HO2 HSUM HCSN HH z1 z2 z3 z4 z5
    have HX0 : Hid (M.bytesOf (headL j ba u ++ chL j 0) = M.bytesOf (headL j ba u ++ chL j 0)) := rfl
    generalize hX : M.bytesOf (headL j ba u ++ chL j 0) = X0 at *
    have HXX := hide hX.symm
    clear hX HX0
    go_wp2_with fail
    go_loopw [7, 8] (fun v i wr => ∃ (k : Nat) (x : ByteArray), k ≤ n ∧ i = .int .i64 k ∧ v = .string x ∧ Hid (x = M.bytesOf (headL j ba u ++ chL j k)) ∧ wr.heap[W.heap.size]? = some (.cells #[.string j.key, .string j.old, .string j.now, .int .i64 j.base, .int .i64 j.up, .string j.patch, .string ex, .string j.man] 30 (0, 0)) ∧ Below W.heap.size W wr) (fun _ i _ => n - (intOf i).toNat)
    case atStart => exact ⟨0, X0, by omega, rfl, rfl, HXX, unhide KJ, unhide HBL⟩
    case round =>
      clear HXX KJ HBL hz0
      obtain ⟨k, x, hk, rfl, rfl, hx, kj, hbel⟩ := hrel
      have hxs : x.size = 8 + 2 * k := by rw [hx.out]; exact unhide HZL k
      obtain ⟨hxj, hfj⟩ := block_facts kj
      have KJ := hide kj
      have HB0 := hide hbel
      clear kj hbel
      go_wp2_with fail
      with_reducible refine (unhide HCS _).mono ?_
      rintro y w1 ⟨rfl, hb1⟩
      have KJ1 := hide (kept_block hb1 (unhide KJ))
      have HB1 := hide ((unhide HB0).trans (hb1.mono (unhide HB0).size))
      clear hb1 hxj hfj KJ HB0
      obtain ⟨hxj, hfj⟩ := block_facts (unhide KJ1)
      by_cases hlt : k < n
      · go_wp2_with fail
        with_reducible refine (unhide HCK k hlt _).mono ?_
        rintro y w2 ⟨rfl, hb2⟩
        have HB2 := hide ((unhide HB1).trans (hb2.mono (unhide HB1).size))
        have KJ2 := hide (kept_block hb2 (unhide KJ1))
        have hcz : (M.chunkT j k).size ≤ 16 := by unfold M.chunkT M.chunkLen; rw [M.mk_size]; omega
        have HE := hide (unhide HST k)
        have HSM := hide (fun X : World => kSum_any (M.chunkT j k) X (by omega))
        have hcl := M.crc_lt (M.chunkT j k).data.toList
        generalize M.crc (M.chunkT j k).data.toList = c at *
        generalize M.chunkT j k = C at *
        clear hb2 hxj hfj KJ1 HB1
        go_wp2_with fail
        with_reducible refine (unhide HSM _).mono ?_
        rintro y w3 ⟨rfl, rfl⟩
        go_wp2_with fail
        with_reducible refine (kTwo_any c _ (by omega)).mono ?_
        rintro y w4 ⟨rfl, hb4⟩
        have HB4 := hide ((unhide HB2).trans (hb4.mono (unhide HB2).size))
        have KJ4 := hide (kept_block hb4 (unhide KJ2))
        have hz2 : (M.bytesOf [c / 256, c % 256]).size = 2 := by rw [M.bytesOf_size]; rfl
        generalize M.bytesOf [c / 256, c % 256] = cc at *
        clear hb4 KJ2 HB2 HSM
        go_wp2
        go_roundw
        case rel => exact ⟨k + 1, x ++ cc, by omega, by go_num, rfl, by show _ = _; rw [hx.out]; exact HE.out, unhide KJ4, unhide HB4⟩
        case measure => simp [intOf]; omega
      · have e : k = n := by omega
        subst e
        have HBX := hide (unhide HBD x hx.out)
        have hkx := unhide HKX
        have h1 := hkx.1
        have h2 := hkx.2
        have hss : (x ++ ex).size = x.size + ex.size := by simp
        have hks : (j.key ++ (x ++ ex)).size = j.key.size + (x.size + ex.size) := by simp
        have HSM := hide (fun X : World => kSum_any (j.key ++ (x ++ ex)) X (by omega))
        have hcl := M.crc_lt (j.key ++ (x ++ ex)).data.toList
        have HFI := hide (unhide HSD (x ++ ex) _ HBX.out rfl)
        generalize M.crc (j.key ++ (x ++ ex)).data.toList = c at *
        clear hkx HBX hlt
        go_wp2_with fail
        with_reducible refine (unhide HSM _).mono ?_
        rintro y w3 ⟨rfl, rfl⟩
        go_wp2_with fail
        with_reducible refine (kTwo_any c _ (by omega)).mono ?_
        rintro y w4 ⟨rfl, hb4⟩
        have HB4 := hide ((unhide HB1).trans (hb4.mono (unhide HB1).size))
        have hz2 : (M.bytesOf [c / 256, c % 256]).size = 2 := by rw [M.bytesOf_size]; rfl
        generalize M.bytesOf [c / 256, c % 256] = cc at *
        clear hb4 HSM
        go_wp2
        go_ret
        exact ⟨ret_string HFI.out, unhide HB4⟩
end Go.Proofs.YtjfmiomopfjecabGreat

/- What the laws seal is a manifest. -/
namespace Go.Proofs.YtjfmiomopfjecabGreat
open Go.RowKit Go.Lib

section
variable {key ex : ByteArray} {L : List Nat} {p c : Nat}
/-- an example, as a manifest holds it: none, or one of a question and an answer -/
def ExOk (ex : ByteArray) : Prop := (ex.size = 1 ∧ M.bz ex 0 = 0) ∨ (3 ≤ ex.size ∧ M.bz ex 0 = 1 ∧ M.bz ex 1 ≤ 8 ∧ M.bz ex 2 ≤ 8 ∧ ex.size = 3 + M.bz ex 1 + M.bz ex 2)
theorem body_low (hL : ∀ x ∈ L, x < 256) {i : Nat} (hi : i < L.length) : M.bz (M.bytesOf L ++ ex) i = L.getD i 0 := by
  rw [M.bz_append, M.bytesOf_size, if_pos hi, M.bz_bytesOf hL]
theorem body_high (i : Nat) : M.bz (M.bytesOf L ++ ex) (L.length + i) = M.bz ex i := by
  rw [M.bz_append, M.bytesOf_size, if_neg (by omega)]
  congr 1
  omega
theorem body_size : (M.bytesOf L ++ ex).size = L.length + ex.size := by simp [M.bytesOf_size]
theorem seal_man (hL : ∀ x ∈ L, x < 256) (h4 : L.getD 4 0 = p) (hp1 : 1 ≤ p) (hp : p ≤ 96) (h5 : 1 ≤ L.getD 5 0) (h5' : L.getD 5 0 ≤ 96) (hlen : L.length = 8 + 2 * M.chunksN p) (hx : ExOk ex)
    (hc : M.crc (key ++ (M.bytesOf L ++ ex)).data.toList = c) :
    M.isManifest key (M.bytesOf L ++ ex ++ M.bytesOf [c / 256, c % 256]) = true := by
  have hcl : c < 65536 := by rw [← hc]; exact M.crc_lt _
  have hbs := body_size (L := L) (ex := ex)
  have hlow : ∀ i, i < L.length → M.bz (M.bytesOf L ++ ex ++ M.bytesOf [c / 256, c % 256]) i = L.getD i 0 := fun i hi => by
    rw [M.bz_append, hbs, if_pos (by omega), body_low hL hi]
  have hmid : ∀ i, i < ex.size → M.bz (M.bytesOf L ++ ex ++ M.bytesOf [c / 256, c % 256]) (L.length + i) = M.bz ex i := fun i hi => by
    rw [M.bz_append, hbs, if_pos (by omega), body_high]
  have htop : ∀ i, M.bz (M.bytesOf L ++ ex ++ M.bytesOf [c / 256, c % 256]) (L.length + ex.size + i) = [c / 256, c % 256].getD i 0 := fun i => by
    rw [M.bz_append, hbs, if_neg (by omega), M.bz_bytesOf (by intro x hx; simp at hx; omega)]
    congr 1
    omega
  have hsz : (M.bytesOf L ++ ex ++ M.bytesOf [c / 256, c % 256]).size = L.length + ex.size + 2 := by
    simp [M.bytesOf_size]
  have hall : M.mk (L.length + ex.size) (M.bz (M.bytesOf L ++ ex ++ M.bytesOf [c / 256, c % 256])) = M.bytesOf L ++ ex := by
    refine M.bz_ext (by rw [M.mk_size, hbs]) fun i hi => ?_
    rw [M.mk_size] at hi
    rw [M.bz_mk (fun j _ => M.bz_lt _ _) hi, M.bz_append, hbs, if_pos hi]
  generalize M.bytesOf L ++ ex ++ M.bytesOf [c / 256, c % 256] = s at *
  have e4 : M.bz s 4 = p := by rw [hlow 4 (by omega), h4]
  have e5 : M.bz s 5 = L.getD 5 0 := hlow 5 (by omega)
  have hseal : M.sealOf (M.bz s) s.size = some (L.length + ex.size) := by
    unfold M.sealOf
    rw [e4, e5, hsz, ← hlen, if_neg (by omega)]
    rcases hx with ⟨hx1, hx0⟩ | ⟨hx3, hx0, hx1, hx2, hxs⟩
    · have m0 := hmid 0 (by omega)
      rw [Nat.add_zero] at m0
      rw [if_neg (by omega), if_pos (by rw [m0, hx0])]
      congr 1
      omega
    · have m0 := hmid 0 (by omega)
      rw [Nat.add_zero] at m0
      have m1 := hmid 1 (by omega)
      have m2 := hmid 2 (by omega)
      have a1 : 9 + 2 * M.chunksN p = L.length + 1 := by omega
      have a2 : 10 + 2 * M.chunksN p = L.length + 2 := by omega
      rw [if_neg (by omega), if_neg (by rw [m0, hx0]; omega), if_pos (by rw [m0, hx0]), a1, a2, m1, m2, if_neg (by omega)]
      congr 1
      omega
  have t0 := htop 0
  have t1 := htop 1
  rw [Nat.add_zero] at t0
  unfold M.isManifest
  rw [hseal]
  show (decide (s.size = L.length + ex.size + 2) && decide (M.bz s (L.length + ex.size) * 256 + M.bz s (L.length + ex.size + 1) = M.crc (key ++ M.mk (L.length + ex.size) (M.bz s)).data.toList)) = true
  rw [hall, hc, t0, t1, hsz]
  simp
  omega
theorem seal_low (hL : ∀ x ∈ L, x < 256) {i : Nat} (hi : i < L.length) : M.bz (M.bytesOf L ++ ex ++ M.bytesOf [c / 256, c % 256]) i = L.getD i 0 := by
  rw [M.bz_append, body_size, if_pos (by omega), body_low hL hi]
theorem seal_mid {i : Nat} (hi : i < ex.size) : M.bz (M.bytesOf L ++ ex ++ M.bytesOf [c / 256, c % 256]) (L.length + i) = M.bz ex i := by
  rw [M.bz_append, body_size, if_pos (by omega), body_high]
theorem chL_at (j : M.Job) {k i : Nat} (h : i < k) : (chL j k).getD (2 * i) 0 = M.crc (M.chunkT j i).data.toList / 256 ∧ (chL j k).getD (2 * i + 1) 0 = M.crc (M.chunkT j i).data.toList % 256 := by
  induction k with
  | zero => omega
  | succ k ih =>
    have hl := chL_length j k
    unfold chL
    rw [List.getD_eq_getElem?_getD, List.getD_eq_getElem?_getD]
    by_cases e : i = k
    · subst e
      rw [List.getElem?_append_right (by omega), List.getElem?_append_right (by omega), hl]
      rw [show 2 * i - 2 * i = 0 from by omega, show 2 * i + 1 - 2 * i = 1 from by omega]
      exact ⟨rfl, rfl⟩
    · rw [List.getElem?_append_left (by omega), List.getElem?_append_left (by omega), ← List.getD_eq_getElem?_getD, ← List.getD_eq_getElem?_getD]
      exact ih (by omega)
theorem chL_all (j : M.Job) (k : Nat) : ∀ x ∈ chL j k, x < 256 := by
  induction k with
  | zero => intro x hx; cases hx
  | succ k ih =>
    intro x hx
    unfold chL at hx
    rcases List.mem_append.1 hx with h | h
    · exact ih x h
    · have := M.crc_lt (M.chunkT j k).data.toList
      simp at h
      omega
theorem headL_all (j : M.Job) {ba u : Nat} (hb : ba ≤ 65535) (hu : u ≤ 65535) (hp : j.patch.size ≤ 96) (hn : j.now.size ≤ 96) : ∀ x ∈ headL j ba u, x < 256 := by
  intro x hx
  have := M.crc_lt j.now.data.toList
  unfold headL at hx
  simp at hx
  omega
theorem jobOk_of (j : M.Job) (ex : ByteArray) (hold : M.isImage j.old = true) (hnow : M.isImage j.now = true) (hl : j.base < j.up) (ht : j.up ≤ 65535) (hp1 : 1 ≤ j.patch.size) (hp : j.patch.size ≤ 96)
    (hg : M.patchRes j.old j.patch j.now.size = some j.now) (hx : ExOk ex)
    (hev : M.bz ex 0 = 1 → evalNum j.now (M.mk (M.bz ex 1) fun k => M.bz ex (3 + k)) = 0 ∧ evalTxt j.now (M.mk (M.bz ex 1) fun k => M.bz ex (3 + k)) = M.mk (M.bz ex 2) fun k => M.bz ex (3 + M.bz ex 1 + k))
    (hm : j.man = sealedT j ex j.base j.up) : M.JobOk j := by
  obtain ⟨h0, h1, h2, h3, h4, h5, h6⟩ := M.headOk_eq (image_head hnow)
  have hn1 : 1 ≤ j.now.size := by omega
  have hn : j.now.size ≤ 96 := by omega
  have hL : ∀ x ∈ headL j j.base j.up ++ chL j (M.chunksN j.patch.size), x < 256 := by
    intro x hx
    rcases List.mem_append.1 hx with h | h
    · exact headL_all j (by omega) ht hp hn x h
    · exact chL_all j _ x h
  have hlen : (headL j j.base j.up ++ chL j (M.chunksN j.patch.size)).length = 8 + 2 * M.chunksN j.patch.size := by rw [List.length_append, chL_length]; rfl
  have hlo : ∀ i, i < 8 + 2 * M.chunksN j.patch.size → M.bz j.man i = (headL j j.base j.up ++ chL j (M.chunksN j.patch.size)).getD i 0 := fun i hi => by
    rw [hm]
    exact seal_low hL (by omega)
  have hmi : ∀ i, i < ex.size → M.bz j.man (8 + 2 * M.chunksN j.patch.size + i) = M.bz ex i := fun i hi => by
    rw [hm, ← hlen]
    exact seal_mid hi
  refine ⟨hold, hnow, hl, ht, hp1, hp, hg, ?_, ?_, ?_, ?_, ?_, ?_, fun i hi => ?_, fun h1 => ?_⟩
  · rw [hm]
    exact seal_man hL (p := j.patch.size) rfl hp1 hp hn1 hn hlen hx rfl
  · rw [hlo 0 (by omega), hlo 1 (by omega)]
    show j.up / 256 * 256 + j.up % 256 = _
    omega
  · rw [hlo 2 (by omega), hlo 3 (by omega)]
    show j.base / 256 * 256 + j.base % 256 = _
    omega
  · rw [hlo 4 (by omega)]; rfl
  · rw [hlo 5 (by omega)]; rfl
  · rw [hlo 6 (by omega), hlo 7 (by omega)]
    show M.crc j.now.data.toList / 256 * 256 + M.crc j.now.data.toList % 256 = _
    omega
  · rw [hlo _ (by omega), hlo _ (by omega), List.getD_eq_getElem?_getD, List.getD_eq_getElem?_getD, List.getElem?_append_right (by show 8 ≤ _; omega), List.getElem?_append_right (by show 8 ≤ _; omega), ← List.getD_eq_getElem?_getD, ← List.getD_eq_getElem?_getD]
    rw [show 8 + 2 * i - (headL j j.base j.up).length = 2 * i from by show 8 + 2 * i - 8 = _; omega, show 9 + 2 * i - (headL j j.base j.up).length = 2 * i + 1 from by show 9 + 2 * i - 8 = _; omega]
    rw [(chL_at j hi).1, (chL_at j hi).2]
    omega
  · have hz : 1 ≤ ex.size := by rcases hx with ⟨a, _⟩ | ⟨a, _⟩ <;> omega
    have m0 := hmi 0 (by omega)
    rw [Nat.add_zero] at m0
    rw [m0] at h1
    rcases hx with ⟨_, hx0⟩ | ⟨hx3, _, hx1, hx2, hxs⟩
    · omega
    · have hh := hev h1
      rw [hmi 1 (by omega), hmi 2 (by omega)]
      have q1 : (M.mk (M.bz ex 1) fun k => M.bz j.man (8 + 2 * M.chunksN j.patch.size + 3 + k)) = M.mk (M.bz ex 1) fun k => M.bz ex (3 + k) := M.mk_congr fun k hk => by
        rw [Nat.add_assoc, hmi _ (by omega)]
      have q2 : (M.mk (M.bz ex 2) fun k => M.bz j.man (8 + 2 * M.chunksN j.patch.size + 3 + M.bz ex 1 + k)) = M.mk (M.bz ex 2) fun k => M.bz ex (3 + M.bz ex 1 + k) := M.mk_congr fun k hk => by
        rw [show 8 + 2 * M.chunksN j.patch.size + 3 + M.bz ex 1 + k = 8 + 2 * M.chunksN j.patch.size + (3 + M.bz ex 1 + k) from by omega, hmi _ (by omega)]
      rw [q1, q2]
      exact hh
end
end Go.Proofs.YtjfmiomopfjecabGreat

/- Diff in plain Lean: with how many bytes two texts begin alike, the patch that the program gives, and what comes out of it. -/
namespace Go.Proofs.YtjfmiomopfjecabGreat.M

def alkF (a b : ByteArray) : Nat → Nat → Nat
  | 0, k => k
  | f + 1, k => if k < a.size ∧ k < b.size ∧ bz a k = bz b k then alkF a b f (k + 1) else k
/-- with how many bytes both begin -/
def alk (a b : ByteArray) : Nat := alkF a b a.size 0
theorem alkF_go {a b : ByteArray} {k : Nat} (h : k < a.size ∧ k < b.size ∧ bz a k = bz b k) : alkF a b (a.size - k) k = alkF a b (a.size - (k + 1)) (k + 1) := by
  rw [show a.size - k = (a.size - (k + 1)) + 1 from by omega, alkF, if_pos h]
theorem alkF_stop {a b : ByteArray} {f k : Nat} (h : ¬ (k < a.size ∧ k < b.size ∧ bz a k = bz b k)) : alkF a b f k = k := by
  cases f with
  | zero => rfl
  | succ f => rw [alkF, if_neg h]
theorem alkF_le (a b : ByteArray) (f k : Nat) (h1 : k ≤ a.size) (h2 : k ≤ b.size) : alkF a b f k ≤ a.size ∧ alkF a b f k ≤ b.size := by
  induction f generalizing k with
  | zero => exact ⟨h1, h2⟩
  | succ f ih =>
    rw [alkF]
    split
    · exact ih (k + 1) (by omega) (by omega)
    · exact ⟨h1, h2⟩
theorem alkF_eq (a b : ByteArray) (f k : Nat) (h : ∀ j, j < k → bz a j = bz b j) : ∀ j, j < alkF a b f k → bz a j = bz b j := by
  induction f generalizing k with
  | zero => exact h
  | succ f ih =>
    rw [alkF]
    split
    · rename_i hc
      refine ih (k + 1) fun j hj => ?_
      by_cases e : j = k
      · subst e; exact hc.2.2
      · exact h j (by omega)
    · exact h
theorem alkF_self (a : ByteArray) (f k : Nat) (h : k + f = a.size) : alkF a a f k = a.size := by
  induction f generalizing k with
  | zero => show k = _; omega
  | succ f ih => rw [alkF, if_pos ⟨by omega, by omega, rfl⟩]; exact ih (k + 1) (by omega)
theorem alk_le (a b : ByteArray) : alk a b ≤ a.size ∧ alk a b ≤ b.size := alkF_le a b _ 0 (by omega) (by omega)
theorem alk_eq (a b : ByteArray) : ∀ j, j < alk a b → bz a j = bz b j := alkF_eq a b _ 0 (by intro j hj; omega)
theorem alk_self (a : ByteArray) : alk a a = a.size := alkF_self a _ 0 (by omega)

def copyT (n : Nat) : ByteArray := if n = 0 then ⟨#[]⟩ else bytesOf [0, 0, n]
def giveT (s : ByteArray) : ByteArray := if s.size = 0 then ⟨#[]⟩ else bytesOf [1, s.size] ++ s
def restT (s : ByteArray) (n : Nat) : ByteArray := mk (s.size - n) fun j => bz s (n + j)
def shortT (b t : ByteArray) : ByteArray := copyT (alk b t) ++ giveT (restT t (alk b t))
def diffT (b t : ByteArray) : ByteArray := if (shortT b t).size < (giveT t).size then shortT b t else giveT t
theorem restT_size (s : ByteArray) (n : Nat) : (restT s n).size = s.size - n := mk_size _ _
theorem copyT_size (n : Nat) : (copyT n).size = if n = 0 then 0 else 3 := by
  unfold copyT
  split <;> rfl
theorem giveT_size (s : ByteArray) : (giveT s).size = if s.size = 0 then 0 else 2 + s.size := by
  unfold giveT
  split
  · rfl
  · rw [ByteArray.size_append]; rfl
theorem shortT_size (b t : ByteArray) : (shortT b t).size = (if alk b t = 0 then 0 else 3) + (if t.size - alk b t = 0 then 0 else 2 + (t.size - alk b t)) := by
  unfold shortT
  rw [ByteArray.size_append, copyT_size, giveT_size, restT_size]
theorem diffT_two (b t : ByteArray) : (diffT b t).size ≤ t.size + 2 := by
  unfold diffT
  have := giveT_size t
  split at this <;> split <;> omega
theorem diffT_five (b t : ByteArray) : (diffT b t).size + alk b t ≤ t.size + 5 := by
  have h := alk_le b t
  have h1 := shortT_size b t
  have h2 := giveT_size t
  unfold diffT
  split at h1 <;> split at h1 <;> split at h2 <;> split <;> omega
theorem diffT_same (b : ByteArray) : (diffT b b).size ≤ 3 := by
  have h := alk_self b
  have h1 := shortT_size b b
  have h2 := giveT_size b
  unfold diffT
  rw [h] at h1
  split at h1 <;> split at h1 <;> split at h2 <;> split <;> omega

theorem nil_append (s : ByteArray) : (⟨#[]⟩ : ByteArray) ++ s = s := ByteArray.empty_append
theorem append_nil (s : ByteArray) : s ++ (⟨#[]⟩ : ByteArray) = s := ByteArray.append_empty
theorem give_go (b x s o : ByteArray) (hs : s.size ≤ 255) : goFrom b (x ++ giveT s) x.size o = some (o ++ s) := by
  by_cases h : s.size = 0
  · have e : giveT s = ⟨#[]⟩ := if_pos h
    have e2 : s = ⟨#[]⟩ := bz_ext (by rw [h]; rfl) (fun j hj => by omega)
    rw [e, append_nil, goFrom_end (Nat.le_refl _), e2, append_nil]
  · have e : giveT s = bytesOf [1, s.size] ++ s := if_neg h
    have hz : (x ++ giveT s).size = x.size + (2 + s.size) := by rw [ByteArray.size_append, giveT_size, if_neg h]
    have all : AllB [1, s.size] := by intro y hy; simp at hy; omega
    have e2 : (bytesOf [1, s.size]).size = 2 := rfl
    have b0 : bz (x ++ giveT s) x.size = 1 := by
      rw [bz_append, if_neg (by omega), e, bz_append, if_pos (by rw [e2]; omega), bz_bytesOf all, Nat.sub_self]; rfl
    have b1 : bz (x ++ giveT s) (x.size + 1) = s.size := by
      rw [bz_append, if_neg (by omega), e, bz_append, if_pos (by rw [e2]; omega), bz_bytesOf all, show x.size + 1 - x.size = 1 from by omega]; rfl
    have b2 : ∀ j, bz (x ++ giveT s) (x.size + 2 + j) = bz s j := by
      intro j
      rw [bz_append, if_neg (by omega), e, bz_append, if_neg (by rw [e2]; omega), e2]
      congr 1
      omega
    have hl : opLen (x ++ giveT s) x.size = 2 + s.size := by simp [opLen, b0, b1]
    have hok : opOk b (x ++ giveT s) x.size = true := by
      unfold opOk opThere opFits
      rw [hl, b0, hz]
      simp
    have hg : opGives b (x ++ giveT s) x.size = s := by
      have hc : opCount (x ++ giveT s) x.size = s.size := by simp [opCount, b0, b1]
      unfold opGives
      rw [hc]
      refine Eq.trans (mk_congr fun j hj => ?_) (self_mk s).symm
      unfold opByte
      rw [b0, if_neg (by omega), if_pos rfl, b2]
    rw [goFrom_ok (by omega) hok, hg, hl, goFrom_end (by omega)]
theorem copy_go (b y : ByteArray) (n : Nat) (hn : n ≤ 255) (hb : n ≤ b.size) : goFrom b (copyT n ++ y) 0 ⟨#[]⟩ = goFrom b (copyT n ++ y) (copyT n).size (mk n (bz b)) := by
  by_cases h : n = 0
  · subst h
    rfl
  · have e : copyT n = bytesOf [0, 0, n] := if_neg h
    have hz : (copyT n).size = 3 := by rw [copyT_size, if_neg h]
    have hz2 : (copyT n ++ y).size = 3 + y.size := by rw [ByteArray.size_append, hz]
    have all : AllB [0, 0, n] := by intro y hy; simp at hy; omega
    have b0 : bz (copyT n ++ y) 0 = 0 := by rw [bz_append, if_pos (by omega), e, bz_bytesOf all]; rfl
    have b1 : bz (copyT n ++ y) 1 = 0 := by rw [bz_append, if_pos (by omega), e, bz_bytesOf all]; rfl
    have b2 : bz (copyT n ++ y) 2 = n := by rw [bz_append, if_pos (by omega), e, bz_bytesOf all]; rfl
    have hl : opLen (copyT n ++ y) 0 = 3 := by simp [opLen, b0]
    have hok : opOk b (copyT n ++ y) 0 = true := by
      unfold opOk opThere opFits
      rw [hl, b0, Nat.zero_add, Nat.zero_add, b1, b2, hz2]
      simp [hb]
    have hg : opGives b (copyT n ++ y) 0 = mk n (bz b) := by
      have hc : opCount (copyT n ++ y) 0 = n := by simp [opCount, b0, b2]
      unfold opGives
      rw [hc]
      refine mk_congr fun j hj => ?_
      unfold opByte
      rw [b0, if_pos rfl, Nat.zero_add, b1, Nat.zero_add]
    rw [goFrom_ok (by omega) hok, hg, hl, hz, nil_append]
theorem diff_go (b t : ByteArray) (ht : t.size ≤ 96) : goFrom b (diffT b t) 0 ⟨#[]⟩ = some t := by
  unfold diffT
  split
  · have h := alk_le b t
    unfold shortT
    rw [copy_go b _ (alk b t) (by omega) (by omega), give_go _ _ _ _ (by rw [restT_size]; omega)]
    congr 1
    refine bz_ext ?_ fun j hj => ?_
    · rw [ByteArray.size_append, mk_size, restT_size]; omega
    · rw [ByteArray.size_append, mk_size, restT_size] at hj
      rw [bz_append, mk_size]
      split
      · rename_i hlt
        rw [bz_mk (fun _ _ => bz_lt _ _) hlt]
        exact alk_eq b t j hlt
      · unfold restT
        rw [bz_mk (fun _ _ => bz_lt _ _) (by omega)]
        congr 1
        omega
  · have h := give_go b ⟨#[]⟩ t ⟨#[]⟩ (by omega)
    rw [nil_append, nil_append] at h
    exact h
end Go.Proofs.YtjfmiomopfjecabGreat.M

/- The two patches of a change. -/
namespace Go.Proofs.YtjfmiomopfjecabGreat
open Go.RowKit Go.Lib

/-- a patch that holds the bytes themselves -/
def ownP (s : ByteArray) : ByteArray := M.bytesOf [1, s.size] ++ s
theorem ownP_go (b s : ByteArray) (hs : s.size ≤ 255) : M.goFrom b (ownP s) 0 ⟨#[]⟩ = some s := by
  unfold ownP
  have hz : (M.bytesOf [1, s.size] ++ s).size = 2 + s.size := by rw [ByteArray.size_append]; rfl
  have all : M.AllB [1, s.size] := by intro y hy; simp at hy; omega
  have e2 : (M.bytesOf [1, s.size]).size = 2 := rfl
  have b0 : M.bz (M.bytesOf [1, s.size] ++ s) 0 = 1 := by rw [M.bz_append, if_pos (by rw [e2]; omega), M.bz_bytesOf all]; rfl
  have b1 : M.bz (M.bytesOf [1, s.size] ++ s) 1 = s.size := by rw [M.bz_append, if_pos (by rw [e2]; omega), M.bz_bytesOf all]; rfl
  have b2 : ∀ j, M.bz (M.bytesOf [1, s.size] ++ s) (2 + j) = M.bz s j := by
    intro j
    rw [M.bz_append, if_neg (by rw [e2]; omega), e2]
    congr 1
    omega
  have hl : M.opLen (M.bytesOf [1, s.size] ++ s) 0 = 2 + s.size := by simp [M.opLen, b0, b1]
  have hok : M.opOk b (M.bytesOf [1, s.size] ++ s) 0 = true := by
    unfold M.opOk M.opThere M.opFits
    rw [hl, b0, hz]
    simp
  have hg : M.opGives b (M.bytesOf [1, s.size] ++ s) 0 = s := by
    have hc : M.opCount (M.bytesOf [1, s.size] ++ s) 0 = s.size := by simp [M.opCount, b0, b1]
    unfold M.opGives
    rw [hc]
    refine Eq.trans (M.mk_congr fun j hj => ?_) (M.self_mk s).symm
    unfold M.opByte
    rw [b0, if_neg (by omega), if_pos rfl, Nat.zero_add, b2]
  rw [M.goFrom_ok (by omega) hok, hg, hl, M.goFrom_end (by omega), M.nil_append]
theorem ownP_res (b s : ByteArray) (hs : s.size ≤ 255) : M.patchRes b (ownP s) s.size = some s := res_some (ownP_go b s hs) rfl
theorem ownP_size (s : ByteArray) : (ownP s).size = 2 + s.size := by unfold ownP; rw [ByteArray.size_append]; rfl
theorem diffP_res (b t : ByteArray) (ht : t.size ≤ 96) : M.patchRes b (M.diffT b t) t.size = some t := res_some (M.diff_go b t ht) rfl
theorem diffP_least (b t : ByteArray) (ht : t.size ≤ 96) (h1 : 1 ≤ t.size) : 1 ≤ (M.diffT b t).size := by
  refine Nat.pos_of_ne_zero fun h => ?_
  have hg := M.diff_go b t ht
  rw [M.goFrom_end (by omega)] at hg
  have := Option.some.inj hg
  rw [← this] at h1
  exact absurd h1 (by decide)
end Go.Proofs.YtjfmiomopfjecabGreat

/- A run begins. -/
namespace Go.Proofs.YtjfmiomopfjecabGreat
open Go.RowKit Go.Lib

set_option maxRecDepth 10000 in
set_option maxHeartbeats 1000000 in
theorem begin_any {c : Chg} {j : M.Job} {ex inp : ByteArray} (W : World) (hj : M.JobOk j) (hk : j.key.size ≤ 16) (hin : inp.size ≤ maxLen)
    (hw : ∀ X : World, Calls Tryz.prog 32 #[chgV c] X fun e w' => e = .returned (.tuple #[jobV j ex, .bool true]) ∧ Below X.heap.size X w') :
    Calls Tryz.prog 10 #[chgV c, .string inp] W fun e w' => Begun W j ex inp e w' := by
  have hbase : j.base ≤ 65535 := by have := hj.less; have := hj.top; omega
  have HST := hide (M.st_new hj)
  have HN := hide (fun X : World => slotsNew_ok j.key j.old j.base X hk hj.old hbase)
  have HJ := hide hj
  have HIN := hide hin
  have HK := hide hk
  have HW := hide hw
  have hv : M.verP j 0 false = j.base := by simp [M.verP]
  clear hj hk hin hw hbase
  go_enter Tryz.func10, Tryz.ntmps10
  go_wp2_with fail
  refine (unhide HW _).mono ?_
  rintro e w1 ⟨rfl, hb1⟩
  obtain ⟨k1, hs1, hb⟩ := blk1 hb1
  have HB1 := hide hb
  clear hb1 hb HW k1
  go_wp2_with fail
  refine (unhide HN _).mono ?_
  rintro e w2 ⟨b, rfl, hgb, hdev, hb2⟩
  obtain ⟨kj, kr, hs2, hbb⟩ := blk2 hb2
  have hgb' : w1.heap.size + 2 ≤ b := by simp at hgb; omega
  have hblt := hdev.lt
  have HR : Hid (RunRel (w2.setCell ⟨w1.heap.size + 1, 0, none⟩ (.pointer (some ⟨b, 0, none⟩))) (w1.heap.size + 1) b j ex inp (M.newD j.key j.old j.base)) :=
    ⟨setCell_in kr 0 _, ⟨0, 1, 0, set_block hdev (by omega), fun _ => ⟨rfl, rfl, rfl⟩⟩, by omega, unhide HK, HST.out.inv, HST.out.tz⟩
  have HB2 := hide ((unhide HB1).trans (hbb.mono (by omega)))
  obtain ⟨hxj, hfj⟩ := block_facts kj
  obtain ⟨hxr, hfr⟩ := block_facts kr
  clear hb2 kj kr hgb hdev hbb HN HK
  have n1 : ¬ w1.heap.size = w1.heap.size + 1 := by omega
  have HSV := hide (serves_st (unhide HJ) (unhide HR) (unhide HST) (unhide HIN))
  rw [hv] at HSV
  go_wp2_with fail
  refine (unhide HSV).mono ?_
  rintro e w3 ⟨rfl, hr3, ho3⟩
  have HR3 := hide hr3
  have HB3 := hide (((unhide HB2).setCell (p := ⟨w1.heap.size + 1, 0, none⟩) (by show W.heap.size ≤ w1.heap.size + 1; omega) (.pointer (some ⟨b, 0, none⟩))).trans (ho3.below (B := W.heap.size) (by simp [World.setCell]; omega) fun q hq => by rw [hq]; omega))
  clear hr3 ho3 HSV HR HB2 hxj hfj hxr hfr
  go_wp2
  go_ret
  exact ⟨w1.heap.size + 1, b, M.newD j.key j.old j.base, rfl, unhide HR3, unhide HST, unhide HB3, by omega, by omega⟩
end Go.Proofs.YtjfmiomopfjecabGreat

/- slotskeep's nodes and images. -/
import Derived.Test.YtjfmiomopfjecaaNodeLeaf
namespace Go.Proofs.Ytjfmiomopfjecaa
open Go.RowKit

theorem kOne_cum {w0 : World} (v : Int) (W : World) (h0 : 0 ≤ v) (h1 : v ≤ 255) (hW : Below w0.heap.size w0 W) :
    Calls Try.prog 24 #[.int .i64 v] W fun e w' => e = .returned (.string (M.bytesOf [v.toNat])) ∧ Below w0.heap.size w0 w' := by
  obtain ⟨n, rfl⟩ := Int.eq_ofNat_of_zero_le h0
  rw [Int.toNat_natCast]
  exact (kOne_any n W (by omega)).mono fun e w' ⟨a, b⟩ => ⟨a, hW.trans (b.mono hW.size)⟩

theorem three (a b c : Nat) : M.bytesOf [a] ++ M.bytesOf [b] ++ M.bytesOf [c] = M.bytesOf [a, b, c] := by
  rw [M.bytesOf_append, M.bytesOf_append]; rfl
theorem one_size (a : Nat) : (M.bytesOf [a]).size = 1 := by rw [M.bytesOf_size]; rfl
theorem nodeL0 {op a b v : Nat} (h : op % 8 = 0) : M.nodeL op a b v = [0, a, b] := if_pos h
theorem nodeL6 {op a b v : Nat} (h : op % 8 = 6) : M.nodeL op a b v = [6, a % v, b % 16] := by unfold M.nodeL; rw [if_neg (by omega), if_pos h]
theorem nodeL7 {op a b v : Nat} (h : op % 8 = 7) : M.nodeL op a b v = [7, a % v, 0] := by unfold M.nodeL; rw [if_neg (by omega), if_neg (by omega), if_pos h]
theorem nodeLx {op a b v : Nat} (h0 : op % 8 ≠ 0) (h6 : op % 8 ≠ 6) (h7 : op % 8 ≠ 7) : M.nodeL op a b v = [op % 8, a % v, b % v] := by unfold M.nodeL; rw [if_neg h0, if_neg h6, if_neg h7]

theorem emod_nat (a b : Nat) : ((a : Int) % (b : Int)).toNat = a % b := by rw [← Int.natCast_emod, Int.toNat_natCast]
theorem emod_bd (a v : Nat) (ha : a < 256) : 0 ≤ (a : Int) % (v : Int) ∧ (a : Int) % (v : Int) ≤ 255 := by
  rw [← Int.natCast_emod]
  have : a % v ≤ a := Nat.mod_le _ _
  omega
set_option maxHeartbeats 1600000 in
theorem kNode_any (t : ByteArray) (v : Nat) (w : World) (ht : t.size = 3) (hv1 : 1 ≤ v) (hv2 : v ≤ 1000) :
    Calls Try.prog 52 #[.string t, .int .i64 v] w fun e w' => e = .returned (.string (M.bytesOf (M.nodeL (M.bz t 0) (M.bz t 1) (M.bz t 2) v))) ∧ Below w.heap.size w w' := by
  have p0 : 0 < t.size := by omega
  have p1 : 1 < t.size := by omega
  have p2 : 2 < t.size := by omega
  rw [← M.bz_at t 0 p0, ← M.bz_at t 1 p1, ← M.bz_at t 2 p2]
  have q0 : (t[0]'p0).toNat < 256 := UInt8.toNat_lt _
  have q1 : (t[1]'p1).toNat < 256 := UInt8.toNat_lt _
  have q2 : (t[2]'p2).toNat < 256 := UInt8.toNat_lt _
  have ht3 : t.size ≤ 3 := by omega
  clear ht
  by_cases h0 : (t[0]'p0).toNat % 8 = 0
  · have HE := hide (nodeL0 (a := (t[1]'p1).toNat) (b := (t[2]'p2).toNat) (v := v) h0)
    have h0' : (((t[0]'p0).toNat : Int) % 8 == 0) = true := beq_iff_eq.2 (by omega)
    have HO : Hid (((t[0]'p0).toNat : Int) % 8 = 0) := by show _ = _; omega
    clear h0
    have hos := one_size
    go_enter Try.func52, Try.ntmps52
    go_wp2_with fail
    refine (kOne_cum _ _ (by omega) (by omega) (Below.refl _ _)).mono ?_
    rintro e w1 ⟨rfl, hb1⟩
    go_wp2_with fail
    refine (kOne_cum _ _ (by omega) (by omega) hb1).mono ?_
    rintro e w2 ⟨rfl, hb2⟩
    go_wp2_with fail
    refine (kOne_cum _ _ (by omega) (by omega) hb2).mono ?_
    rintro e w3 ⟨rfl, hb3⟩
    go_wp2
    go_ret
    exact ⟨ret_string (by rw [HE.out, three]; congr 2; have := HO.out; omega), hb3⟩
  · have h0' : (((t[0]'p0).toNat : Int) % 8 == 0) = false := beq_eq_false_iff_ne.2 (by omega)
    have hos := one_size
    have hv0 : ((v : Int) == 0) = false := beq_eq_false_iff_ne.2 (by omega)
    have hx0 : 0 ≤ ((t[0]'p0).toNat : Int) % 8 ∧ ((t[0]'p0).toNat : Int) % 8 ≤ 255 := by omega
    have hx1 := emod_bd (t[1]'p1).toNat v q1
    have hx2 := emod_bd (t[2]'p2).toNat v q2
    have hvz : ¬ (v : Int) = 0 := by omega
    have hvn : ¬ v = 0 := by omega
    have hm1 : ((t[1]'p1).toNat : Int).tmod (v : Int) = ((t[1]'p1).toNat : Int) % (v : Int) := Int.tmod_eq_emod_of_nonneg (by omega)
    have hm2 : ((t[2]'p2).toNat : Int).tmod (v : Int) = ((t[2]'p2).toNat : Int) % (v : Int) := Int.tmod_eq_emod_of_nonneg (by omega)
    have hm3 : ((t[2]'p2).toNat : Int).tmod 16 = ((t[2]'p2).toNat : Int) % 16 := Int.tmod_eq_emod_of_nonneg (by omega)
    have HM1 := hide (emod_nat (t[1]'p1).toNat v)
    have HM2 := hide (emod_nat (t[2]'p2).toNat v)
    have HM3 := hide (emod_nat (t[2]'p2).toNat 16)
    have HM0 := hide (emod_nat (t[0]'p0).toNat 8)
    by_cases h6 : (t[0]'p0).toNat % 8 = 6
    · have HE := hide (nodeL6 (a := (t[1]'p1).toNat) (b := (t[2]'p2).toNat) (v := v) h6)
      have h6' : (((t[0]'p0).toNat : Int) % 8 == 6) = true := beq_iff_eq.2 (by omega)
      have H6 := hide h6
      clear h6 h0
      go_enter Try.func52, Try.ntmps52
      go_wp2_with fail
      go_region_held3 (fun _ => True) (first | trivial | (intros; trivial)) ((go_at_call 24; refine (kOne_cum _ _ (by omega) (by omega) (by first | exact hbN | exact (Below.refl _ _).drew)).mono ?_; rintro e w1 ⟨rfl, hbN⟩))
      go_wp2
      go_ret
      exact ⟨ret_string (by rw [HE.out, three]; rw [← H6.out, ← HM0.out, ← HM1.out, ← HM3.out]; rfl), hbN⟩
    · have h6' : (((t[0]'p0).toNat : Int) % 8 == 6) = false := beq_eq_false_iff_ne.2 (by omega)
      by_cases h7 : (t[0]'p0).toNat % 8 = 7
      · have HE := hide (nodeL7 (a := (t[1]'p1).toNat) (b := (t[2]'p2).toNat) (v := v) h7)
        have h7' : (((t[0]'p0).toNat : Int) % 8 == 7) = true := beq_iff_eq.2 (by omega)
        have H7 := hide h7
        clear h7 h6 h0
        go_enter Try.func52, Try.ntmps52
        go_wp2_with fail
        go_region_held3 (fun _ => True) (first | trivial | (intros; trivial)) ((go_at_call 24; refine (kOne_cum _ _ (by omega) (by omega) (by first | exact hbN | exact (Below.refl _ _).drew)).mono ?_; rintro e w1 ⟨rfl, hbN⟩))
        go_wp2
        go_ret
        exact ⟨ret_string (by rw [HE.out, three]; rw [← H7.out, ← HM0.out, ← HM1.out]; rfl), hbN⟩
      · have HE := hide (nodeLx (a := (t[1]'p1).toNat) (b := (t[2]'p2).toNat) (v := v) h0 h6 h7)
        have h7' : (((t[0]'p0).toNat : Int) % 8 == 7) = false := beq_eq_false_iff_ne.2 (by omega)
        clear h7 h6 h0
        go_enter Try.func52, Try.ntmps52
        go_wp2_with fail
        go_region_held3 (fun _ => True) (first | trivial | (intros; trivial)) ((go_at_call 24; refine (kOne_cum _ _ (by omega) (by omega) (by first | exact hbN | exact (Below.refl _ _).drew)).mono ?_; rintro e w1 ⟨rfl, hbN⟩))
        go_wp2
        go_ret
        exact ⟨ret_string (by rw [HE.out, three]; rw [← HM0.out, ← HM1.out, ← HM2.out]; rfl), hbN⟩
end Go.Proofs.Ytjfmiomopfjecaa

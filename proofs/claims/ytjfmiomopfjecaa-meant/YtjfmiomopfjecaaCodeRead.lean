/- The program's reading of codes: shaped, steps. -/
import Derived.Test.YtjfmiomopfjecaaNetCode1
import Derived.Test.YtjfmiomopfjecaaCodeRefExec
namespace Go.Proofs.Ytjfmiomopfjecaa
open Go.RowKit

theorem cshaped_yes (s : ByteArray) (w : World) (hs : s.size ≤ maxLen) (h : M.cHead s = true) :
    Calls Try.prog 70 #[.string s] w fun e w' => e = .returned (.bool true) ∧ w = w' := by
  obtain ⟨h0, h1, h2, h3, h4, h5, h6, h7, h8⟩ := M.cHead_eq h
  have k5 : 5 ≤ s.size := by omega
  have p0 : 0 < s.size := by omega
  have p1 : 1 < s.size := by omega
  have p2 : 2 < s.size := by omega
  have p3 : 3 < s.size := by omega
  have p4 : 4 < s.size := by omega
  rw [← M.bz_at s 0 p0] at h0
  rw [← M.bz_at s 1 p1] at h1 h2 h3
  rw [← M.bz_at s 2 p2] at h3 h4
  rw [← M.bz_at s 3 p3] at h5 h6 h8
  rw [← M.bz_at s 4 p4] at h7 h8
  have hn : (((s[0]'p0).toNat : Int) != 75) = false := by rw [bne_eq_false_iff_eq]; omega
  have he : ((s.size : Int) == (5 : Int) + ((s[3]'p3).toNat : Int) + (4 : Int) * ((s[4]'p4).toNat : Int)) = true := by rw [beq_iff_eq]; omega
  clear h h8 h0
  unfold maxLen at hs
  go_enter Try.func70, Try.ntmps70
  go_wp2
  go_ret
  exact ⟨rfl, rfl⟩

set_option maxHeartbeats 3200000 in
theorem cshaped_no (s : ByteArray) (w : World) (hs : s.size ≤ maxLen) (h : M.cHead s = false) :
    Calls Try.prog 70 #[.string s] w fun e w' => e = .returned (.bool false) ∧ w = w' := by
  have hno := M.cHead_no h
  clear h
  unfold maxLen at hs
  by_cases k5 : 5 ≤ s.size
  · have p0 : 0 < s.size := by omega
    have p1 : 1 < s.size := by omega
    have p2 : 2 < s.size := by omega
    have p3 : 3 < s.size := by omega
    have p4 : 4 < s.size := by omega
    rw [← M.bz_at s 0 p0, ← M.bz_at s 1 p1, ← M.bz_at s 2 p2, ← M.bz_at s 3 p3, ← M.bz_at s 4 p4] at hno
    have q0 : (s[0]'p0).toNat < 256 := UInt8.toNat_lt _
    have q1 : (s[1]'p1).toNat < 256 := UInt8.toNat_lt _
    have q2 : (s[2]'p2).toNat < 256 := UInt8.toNat_lt _
    have q3 : (s[3]'p3).toNat < 256 := UInt8.toNat_lt _
    have q4 : (s[4]'p4).toNat < 256 := UInt8.toNat_lt _
    by_cases c0 : (s[0]'p0).toNat = 75
    · have hn : (((s[0]'p0).toNat : Int) != 75) = false := by rw [bne_eq_false_iff_eq]; omega
      by_cases c1 : (s[1]'p1).toNat < 1
      · clear hno c0
        go_enter Try.func70, Try.ntmps70
        go_wp2
        go_ret
        exact ⟨rfl, rfl⟩
      · by_cases c2 : 4 < (s[1]'p1).toNat
        · clear hno c0
          go_enter Try.func70, Try.ntmps70
          go_wp2
          go_ret
          exact ⟨rfl, rfl⟩
        · by_cases c3 : (s[2]'p2).toNat < (s[1]'p1).toNat
          · clear hno c0
            go_enter Try.func70, Try.ntmps70
            go_wp2
            go_ret
            exact ⟨rfl, rfl⟩
          · by_cases c4 : 32 < (s[2]'p2).toNat
            · clear hno c0
              go_enter Try.func70, Try.ntmps70
              go_wp2
              go_ret
              exact ⟨rfl, rfl⟩
            · by_cases c5 : (s[3]'p3).toNat < 1
              · clear hno c0
                go_enter Try.func70, Try.ntmps70
                go_wp2
                go_ret
                exact ⟨rfl, rfl⟩
              · by_cases c6 : 4 < (s[3]'p3).toNat
                · clear hno c0
                  go_enter Try.func70, Try.ntmps70
                  go_wp2
                  go_ret
                  exact ⟨rfl, rfl⟩
                · by_cases c7 : 48 < (s[4]'p4).toNat
                  · clear hno c0
                    go_enter Try.func70, Try.ntmps70
                    go_wp2
                    go_ret
                    exact ⟨rfl, rfl⟩
                  · have he : ((s.size : Int) == (5 : Int) + ((s[3]'p3).toNat : Int) + (4 : Int) * ((s[4]'p4).toNat : Int)) = false := by rw [beq_eq_false_iff_ne]; omega
                    clear hno c0
                    go_enter Try.func70, Try.ntmps70
                    go_wp2
                    go_ret
                    exact ⟨rfl, rfl⟩
    · have hn : (((s[0]'p0).toNat : Int) != 75) = true := by rw [bne_iff_ne]; omega
      clear hno c0
      go_enter Try.func70, Try.ntmps70
      go_wp2
      go_ret
      exact ⟨rfl, rfl⟩
  · clear hno
    go_enter Try.func70, Try.ntmps70
    go_wp2
    go_ret
    exact ⟨rfl, rfl⟩

/-- the cells of instructions: what, a, b, to -/
def perm (r : Nat) : Nat := if r = 0 then 0 else if r = 1 then 2 else if r = 2 then 3 else 1
def sval (s : ByteArray) (f j : Nat) : Int := (M.bz s (f + 4 * (j / 4) + perm (j % 4)) : Int)
def scells (s : ByteArray) (f k : Nat) : List Value := intCells (M.listOf (4 * k) (sval s f))
theorem sval0 (s : ByteArray) (f k : Nat) : sval s f (4 * k) = M.bz s (f + 4 * k) := by
  unfold sval
  rw [show 4 * k / 4 = k from by omega, show 4 * k % 4 = 0 from by omega]; rfl
theorem sval1 (s : ByteArray) (f k : Nat) : sval s f (4 * k + 1) = M.bz s (f + 4 * k + 2) := by
  unfold sval
  rw [show (4 * k + 1) / 4 = k from by omega, show (4 * k + 1) % 4 = 1 from by omega]; rfl
theorem sval2 (s : ByteArray) (f k : Nat) : sval s f (4 * k + 2) = M.bz s (f + 4 * k + 3) := by
  unfold sval
  rw [show (4 * k + 2) / 4 = k from by omega, show (4 * k + 2) % 4 = 2 from by omega]; rfl
theorem sval3 (s : ByteArray) (f k : Nat) : sval s f (4 * k + 3) = M.bz s (f + 4 * k + 1) := by
  unfold sval
  rw [show (4 * k + 3) / 4 = k from by omega, show (4 * k + 3) % 4 = 3 from by omega]; rfl
theorem scells_succ (s : ByteArray) (f k : Nat) : scells s f (k + 1) = scells s f k ++ [.int .i64 (M.bz s (f + 4 * k)), .int .i64 (M.bz s (f + 4 * k + 2)), .int .i64 (M.bz s (f + 4 * k + 3)), .int .i64 (M.bz s (f + 4 * k + 1))] := by
  unfold scells
  rw [show 4 * (k + 1) = 4 * k + 1 + 1 + 1 + 1 from by omega, M.listOf_succ, M.listOf_succ, M.listOf_succ, M.listOf_succ, intCells_snoc, intCells_snoc, intCells_snoc, intCells_snoc, sval0, sval1, show 4 * k + 1 + 1 = 4 * k + 2 from rfl, sval2, show 4 * k + 2 + 1 = 4 * k + 3 from rfl, sval3]
  simp
theorem scells_at (s : ByteArray) (f k j : Nat) (h : j < 4 * k) : (scells s f k)[j]? = some (.int .i64 (sval s f j)) := by
  simp [scells, intCells, M.listOf, h]

theorem infoStep : (Try.prog.info? 83).map (fun i => (i.zero, i.size, i.bytes)) = some (some (.agg #[.int .i64 0, .int .i64 0, .int .i64 0, .int .i64 0]), 4, 32) := by kernel_rfl

set_option maxHeartbeats 800000 in
theorem steps_any (s : ByteArray) (f c : Nat) (w : World) (hs : s.size ≤ maxLen) (hf : f ≤ 65535) (hc : c ≤ 255) :
    Calls Try.prog 73 #[.string s, .int .i64 f, .int .i64 c] w fun e w' => ∃ v, e = .returned v ∧ w'.ownsRow w.heap.size 83 4 v c (scells s f c) ∧ Below w.heap.size w w' := by
  obtain ⟨i0, hi, hz0, hz1, hz2⟩ := info_parts infoStep
  have HI := hide hi
  have HZ0 := hide hz0
  have HZ1 := hide hz1
  have HZ2 := hide hz2
  clear hi hz0 hz1 hz2
  go_enter Try.func73, Try.ntmps73
  go_wp2_with fail
  go_loopw [7, 8] (fun v i wr => ∃ k : Nat, k ≤ c ∧ i = .int .i64 k ∧ wr.ownsRow w.heap.size 83 4 v k (scells s f k) ∧ Below w.heap.size w wr) (fun _ i _ => c - (intOf i).toNat)
  case atStart => exact ⟨0, by omega, rfl, World.ownsRow_nil _ _ _ _, Below.refl _ _⟩
  case round =>
    obtain ⟨k, hk, rfl, hown, hbel⟩ := hrel
    have HO := hide hown
    have HB := hide hbel
    have hsz := hbel.size
    clear hown hbel
    by_cases hlt : k < c
    · have HS := hide (scells_succ s f k)
      go_wp2_with fail
      refine (wordByte_any s _ _ hs (by omega)).mono ?_
      rintro e w' ⟨rfl, rfl⟩
      rw [show ((f : Int) + 4 * (k : Int)).toNat = f + 4 * k from by omega]
      generalize M.bz s (f + 4 * k) = x at *
      go_wp2_with fail
      refine (wordByte_any s _ _ hs (by omega)).mono ?_
      rintro e w' ⟨rfl, rfl⟩
      rw [show ((f : Int) + 4 * (k : Int) + 1).toNat = f + 4 * k + 1 from by omega]
      generalize M.bz s (f + 4 * k + 1) = t at *
      go_wp2_with fail
      refine (wordByte_any s _ _ hs (by omega)).mono ?_
      rintro e w' ⟨rfl, rfl⟩
      rw [show ((f : Int) + 4 * (k : Int) + 2).toNat = f + 4 * k + 2 from by omega]
      generalize M.bz s (f + 4 * k + 2) = y at *
      go_wp2_with fail
      refine (wordByte_any s _ _ hs (by omega)).mono ?_
      rintro e w' ⟨rfl, rfl⟩
      rw [show ((f : Int) + 4 * (k : Int) + 3).toNat = f + 4 * k + 3 from by omega]
      generalize M.bz s (f + 4 * k + 3) = z at *
      go_wp2_with (at_builtin; go_loud (refine append_one (wr.alloc (.cells #[.int .i64 x, .int .i64 y, .int .i64 z, .int .i64 t] 83)) rfl (.tmp 42) (.tmp 44) 57 rfl w.heap.size 83 i0 _ 4 32 Try.underlying57 (unhide HI) (unhide HZ0) (unhide HZ1) (unhide HZ2) rfl (by decide) u7 k _ rfl ((unhide HO).alloc _) [.int .i64 x, .int .i64 y, .int .i64 z, .int .i64 t] rfl (by simp [Act.eval]) (by simp [Value.oneCell']) (by omega) (by omega) (by simp; omega) ?_); intro v' w1 hown1 hbel1 hsz1)
      have HR : Hid (w1.ownsRow w.heap.size 83 4 v' (k + 1) (scells s f (k + 1))) := by rw [HS.out]; exact hown1
      have HB1 := hide (hbel1 w ((unhide HB).alloc hsz _))
      clear hown1 hbel1
      go_roundw
      case rel => exact ⟨k + 1, by omega, by go_num, unhide HR, unhide HB1⟩
      case measure => simp [intOf]; omega
    · have : k = c := by omega
      subst this
      go_wp2
      go_ret
      exact ⟨_, rfl, unhide HO, unhide HB⟩
end Go.Proofs.Ytjfmiomopfjecaa

/- The steps of a patch: added, fits, gives, read. -/
import Derived.Test.YtjfmiomopfjecaaPatchLeaf
namespace Go.Proofs.Ytjfmiomopfjecaa
open Go.RowKit Go.Lib

theorem wordByte_nat (s : ByteArray) (i : Nat) (w : World) (hs : s.size ≤ maxLen) :
    Calls Try.prog 71 #[.string s, .int .i64 i] w fun e w' => e = .returned (.int .i64 (M.bz s i)) ∧ w = w' := by
  have h := wordByte_any s (i : Int) w hs (by omega)
  rw [Int.toNat_natCast] at h
  exact h
set_option maxRecDepth 10000 in
theorem added_any (s t : ByteArray) (n : Nat) (w : World) (hs : s.size = n) (ht : t.size = n) (hn : n ≤ 255) :
    Calls Try.prog 111 #[.string s, .string t] w fun e w' => e = .returned (.string (M.mk n fun j => (M.bz s j + M.bz t j) % 256)) ∧ Below w.heap.size w w' := by
  have hs1 : s.size ≤ n := by omega
  have hs2 : n ≤ s.size := by omega
  have HT := hide (show t.size ≤ maxLen by unfold maxLen; omega)
  clear hs ht
  go_enter Try.func111, Try.ntmps111
  go_wp2_with fail
  go_loopw [5, 6] (fun v i wr => ∃ (k : Nat) (o : ByteArray), k ≤ n ∧ i = .int .i64 k ∧ Hid (o = M.mk k fun j => (M.bz s j + M.bz t j) % 256) ∧ wr.ownsRow w.heap.size 5 1 v o.size (strCells o) ∧ Below w.heap.size w wr) (fun _ i _ => n - (intOf i).toNat)
  case atStart => exact ⟨0, ⟨#[]⟩, by omega, rfl, rfl, World.ownsRow_nil _ _ _ _, Below.refl _ _⟩
  case round =>
    obtain ⟨k, o, hk, rfl, ho, hown, hbel⟩ := hrel
    have hsz := hbel.size
    have HZ : Hid (o.size = k) := by rw [ho.out, M.mk_size]; rfl
    by_cases hlt : k < n
    · have HO := hide hown
      have HB := hide hbel
      have p0 : k < s.size := by omega
      have hi0 : (k : Int) < (s.size : Int) := by omega
      have HS : Hid (o ++ M.bytesOf [((s[k]'p0).toNat + M.bz t k) % 256] = M.mk (k + 1) fun j => (M.bz s j + M.bz t j) % 256) := by
        rw [M.mk_succ, ← ho.out, M.bz_at s k p0]; rfl
      have b0 : (s[k]'p0).toNat < 256 := UInt8.toNat_lt _
      have b1 := M.bz_lt t k
      have hwb0 : IntKind.i64.wrap ((s[k]'p0).toNat : Int) = ((s[k]'p0).toNat : Int) := IntWalk.i64_in _ ⟨by omega, by omega⟩
      have hwsum : IntKind.i64.wrap (((s[k]'p0).toNat : Int) + (M.bz t k : Int)) = ((s[k]'p0).toNat : Int) + (M.bz t k : Int) := IntWalk.i64_in _ ⟨by omega, by omega⟩
      clear hown hbel
      go_wp2_with fail
      go_region_held3 (fun _ => True) (first | trivial | (intros; trivial)) ((go_at_call 71; refine (wordByte_nat t k _ (unhide HT)).mono ?_; rintro e w' ⟨rfl, rfl⟩))
      all_goals
        generalize (s[k]'p0).toNat = x at *
        generalize M.bz t k = y at *
        clear hwsum hwb0
        have hmod : ((x : Int) + (y : Int)) % 256 = ((x + y) % 256 : Nat) := by omega
        have HM := hide hmod
        clear hmod
        go_wp2_with (at_builtin; (refine append_byte _ rfl (.tmp 22) (.tmp 26) rfl w.heap.size u5 o ((x + y) % 256) wr.heap.size (by omega) rfl rfl (by rw [← HM.out]; simp) (by first | exact ((unhide HO).alloc _).drew | exact (unhide HO).drew.alloc _) (by rw [HZ.out]; omega) (by simp; omega) ?_); intro v' w1 hown1 hbel1 hsz1)
        have HR : Hid (w1.ownsRow w.heap.size 5 1 v' (M.mk (k + 1) fun j => (M.bz s j + M.bz t j) % 256).size (strCells (M.mk (k + 1) fun j => (M.bz s j + M.bz t j) % 256))) := by rw [← HS.out]; exact hown1
        have HB1 := hide (hbel1 w (by first | exact ((unhide HB).alloc hsz _).drew | exact (unhide HB).drew.alloc hsz _))
        clear hown1 hbel1
        go_wp2
        go_roundw
        case rel => exact ⟨k + 1, _, by omega, by go_num, rfl, unhide HR, unhide HB1⟩
        case measure => simp [intOf]; omega
    · have hkn : k = n := by omega
      subst hkn
      have hr := row_text _ _ _ _ hown
      have HB := hide hbel
      clear hown hbel
      go_wp2
      go_ret
      exact ⟨ret_string ho.out, unhide HB⟩

theorem fits_base (what at_ count : Nat) (t b : ByteArray) (w : World) (hw : what = 0 ∨ what = 3) (ha : at_ < 256) (hc : count < 256) (_hb : b.size ≤ 2000000) :
    Calls Try.prog 109 #[.agg #[.int .i64 what, .int .i64 at_, .int .i64 count, .string t], .string b] w fun e w' => e = .returned (.bool (decide (at_ + count ≤ b.size))) ∧ Below w.heap.size w w' := by
  have HE : Hid (decide ((at_ : Int) + (count : Int) ≤ (b.size : Int)) = decide (at_ + count ≤ b.size)) := by
    show _ = _
    rw [decide_eq_decide]; omega
  rcases hw with rfl | rfl
  · go_enter Try.func109, Try.ntmps109
    go_wp2
    go_ret
    exact ⟨ret_bool HE.out, (Below.refl _ _).alloc (Nat.le_refl _) _⟩
  · go_enter Try.func109, Try.ntmps109
    go_wp2
    go_ret
    exact ⟨ret_bool HE.out, (Below.refl _ _).alloc (Nat.le_refl _) _⟩
theorem fits_own (what at_ count : Nat) (t b : ByteArray) (w : World) (hw : what = 1 ∨ what = 2) :
    Calls Try.prog 109 #[.agg #[.int .i64 what, .int .i64 at_, .int .i64 count, .string t], .string b] w fun e w' => e = .returned (.bool true) ∧ Below w.heap.size w w' := by
  rcases hw with rfl | rfl
  · go_enter Try.func109, Try.ntmps109
    go_wp2
    go_ret
    exact ⟨rfl, (Below.refl _ _).alloc (Nat.le_refl _) _⟩
  · go_enter Try.func109, Try.ntmps109
    go_wp2
    go_ret
    exact ⟨rfl, (Below.refl _ _).alloc (Nat.le_refl _) _⟩
end Go.Proofs.Ytjfmiomopfjecaa

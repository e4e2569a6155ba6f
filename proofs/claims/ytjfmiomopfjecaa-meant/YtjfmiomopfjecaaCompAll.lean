/- slots.Compile. -/
import Derived.Test.YtjfmiomopfjecaaCompText
namespace Go.Proofs.Ytjfmiomopfjecaa
open Go.RowKit Go.Lib

theorem slotsCompile_no (s : ByteArray) (w : World) (hs : s.size ≤ maxLen) (h : M.isImage s = false) :
    Calls Try.prog 31 #[.string s] w fun e w' => e = .returned (.tuple #[.string ⟨#[]⟩, .int .i64 1]) ∧ Below w.heap.size w w' := by
  go_enter Try.func31, Try.ntmps31
  go_wp2_with fail
  refine (parse_no s _ hs h).mono ?_
  clear h
  rintro e w' ⟨rfl, hb⟩
  go_wp2
  go_ret2
  exact ⟨rfl, hb.alloc hb.size _⟩
theorem slotsCompile_ok (s : ByteArray) (w : World) (hs : s.size ≤ maxLen) (h : M.isImage s = true) :
    Calls Try.prog 31 #[.string s] w fun e w' => e = .returned (.tuple #[.string (M.codeT s), .int .i64 0]) ∧ Below w.heap.size w w' := by
  have HI := hide h
  go_enter Try.func31, Try.ntmps31
  go_wp2_with fail
  refine (parse_ok s _ hs h).mono ?_
  clear h
  rintro e w1 ⟨a1, cap1, a2, cap2, rfl, hr1, hr2, hb⟩
  have HB := hide hb
  have HR1 := hide (hr1.mono ((Below.refl _ _).alloc (Nat.le_refl _) (.cells #[.int .i64 (M.bz s 1), .slice a1 (M.bz s 2) cap1, .slice a2 (M.bz s 3) cap2] 66)))
  have HR2 := hide (hr2.mono ((Below.refl _ _).alloc (Nat.le_refl _) (.cells #[.int .i64 (M.bz s 1), .slice a1 (M.bz s 2) cap1, .slice a2 (M.bz s 3) cap2] 66)))
  have hsz := hb.size
  clear hb hr1 hr2
  go_wp2_with fail
  refine (compileOf_at s _ _ _ a1 a2 cap1 cap2 _ (unhide HI) rfl rfl rfl (unhide HR1) (unhide HR2)).mono ?_
  rintro e w2 ⟨ao, capo, as_, caps, rfl, hq1, hq2, hb2⟩
  have hsz2 := hb2.size
  simp only [World.size_alloc] at hsz2
  have HB2 : Hid (Below w.heap.size w w2) := ((unhide HB).alloc hsz _).trans (hb2.mono (by simp; omega))
  clear hb2
  have HEQ : ∃ q0, q0 = M.bz s 1 + M.cnt s (M.bz s 2) := ⟨_, rfl⟩
  obtain ⟨q0, hq0⟩ := HEQ
  rw [← hq0]
  have HQ0 := hide hq0
  have HS1 := hide (hq1.mono ((Below.refl _ _).alloc (Nat.le_refl _) (.cells #[.int .i64 (M.bz s 1), .int .i64 q0, .slice ao (M.bz s 3) capo, .slice as_ (M.cnt s (M.bz s 2)) caps] 59)))
  have HS2 := hide (hq2.mono ((Below.refl _ _).alloc (Nat.le_refl _) (.cells #[.int .i64 (M.bz s 1), .int .i64 q0, .slice ao (M.bz s 3) capo, .slice as_ (M.cnt s (M.bz s 2)) caps] 59)))
  clear hq0 hq1 hq2
  go_wp2_with fail
  refine (text_at s _ _ _ _ q0 HQ0.out ao as_ capo caps _ (unhide HI) rfl rfl rfl rfl (unhide HS1) (unhide HS2)).mono ?_
  rintro e w3 ⟨rfl, hb3⟩
  have HB3 : Hid (Below w.heap.size w w3) := ((unhide HB2).alloc (by omega) _).trans (hb3.mono (by simp; omega))
  clear hb3
  go_wp2
  go_ret2
  exact ⟨rfl, unhide HB3⟩
end Go.Proofs.Ytjfmiomopfjecaa

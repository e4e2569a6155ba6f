/- The program's Diff: delta.alike, copying, giving, Between, slots.Diff. -/
import Derived.Test.YtjfmiomopfjecaaPatchRun
import Derived.Test.YtjfmiomopfjecaaDiffMath
namespace Go.Proofs.Ytjfmiomopfjecaa
open Go.RowKit Go.Lib

set_option maxRecDepth 10000 in
theorem alike_any (a b : ByteArray) (w : World) (ha : a.size ≤ 2000000) (_hb : b.size ≤ 2000000) :
    Calls Try.prog 96 #[.string a, .string b] w fun e w' => e = .returned (.int .i64 (M.alk a b)) ∧ Below w.heap.size w w' := by
  go_enter Try.func96, Try.ntmps96
  go_wp2_with fail
  go_loopw [5] (fun i wr => ∃ k : Nat, k ≤ a.size ∧ i = .int .i64 k ∧ Hid (M.alkF a b (a.size - k) k = M.alk a b) ∧ Below w.heap.size w wr) (fun i _ => a.size - (intOf i).toNat)
  case atStart => exact ⟨0, by omega, rfl, rfl, Below.refl _ _⟩
  case round =>
    obtain ⟨k, hk, rfl, hg, hbel⟩ := hrel
    have HB := hide hbel
    clear hbel
    by_cases h1 : k < a.size
    · have i1 : (k : Int) < (a.size : Int) := by omega
      have d1 : decide ((k : Int) < (a.size : Int)) = true := decide_eq_true i1
      have d1' : decide (k < a.size) = true := decide_eq_true h1
      by_cases h2 : k < b.size
      · have i2 : (k : Int) < (b.size : Int) := by omega
        have d2 : decide ((k : Int) < (b.size : Int)) = true := decide_eq_true i2
        have d2' : decide (k < b.size) = true := decide_eq_true h2
        by_cases h3 : M.bz a k = M.bz b k
        · have HN := hide ((M.alkF_go ⟨h1, h2, h3⟩).symm.trans hg.out)
          rw [← M.bz_at a k h1, ← M.bz_at b k h2] at h3
          have e3 : (((a[k]'h1).toNat : Int) == ((b[k]'h2).toNat : Int)) = true := by rw [beq_iff_eq]; omega
          clear h3
          go_wp2_with fail
          go_quiet (fail)
          go_wp2
          go_roundw
          case rel => exact ⟨k + 1, by omega, by go_num, HN, below_drewN' (unhide HB) _⟩
          case measure => simp [intOf]; omega
        · have HN := hide ((M.alkF_stop (f := a.size - k) (fun h => h3 h.2.2)).symm.trans hg.out)
          rw [← M.bz_at a k h1, ← M.bz_at b k h2] at h3
          have e3 : (((a[k]'h1).toNat : Int) == ((b[k]'h2).toNat : Int)) = false := by rw [beq_eq_false_iff_ne]; omega
          clear h3
          go_wp2_with fail
          go_quiet (fail)
          go_wp2
          go_ret
          exact ⟨ret_int (by rw [HN.out]), below_drewN' (unhide HB) _⟩
      · have HN := hide ((M.alkF_stop (f := a.size - k) (fun h => h2 h.2.1)).symm.trans hg.out)
        have d2 : decide ((k : Int) < (b.size : Int)) = false := decide_eq_false (by omega)
        have d2' : decide (k < b.size) = false := decide_eq_false h2
        go_wp2_with fail
        go_quiet (fail)
        go_wp2
        go_ret
        exact ⟨ret_int (by rw [HN.out]), below_drewN' (unhide HB) _⟩
    · have HN := hide ((M.alkF_stop (f := a.size - k) (fun h => h1 h.1)).symm.trans hg.out)
      have d1 : decide ((k : Int) < (a.size : Int)) = false := decide_eq_false (by omega)
      have d1' : decide (k < a.size) = false := decide_eq_false h1
      go_wp2_with fail
      go_quiet (fail)
      go_wp2
      go_ret
      exact ⟨ret_int (by rw [HN.out]), below_drewN' (unhide HB) _⟩

theorem copying_any (n : Nat) (w : World) (hn : n ≤ 255) :
    Calls Try.prog 98 #[.int .i64 n] w fun e w' => e = .returned (.string (M.copyT n)) ∧ Below w.heap.size w w' := by
  by_cases h : n = 0
  · have HE := hide (show M.copyT n = ⟨#[]⟩ from if_pos h)
    subst h
    go_enter Try.func98, Try.ntmps98
    go_wp2
    go_ret
    exact ⟨ret_string HE.out.symm, Below.refl _ _⟩
  · have HE := hide (show M.copyT n = M.bytesOf [0, 0, n] from if_neg h)
    have hr := text_run w [0, 0, (n : Int)] 3 rfl
    simp only [List.map_cons, List.map_nil] at hr
    have h0 : ((n : Int) == 0) = false := by rw [beq_eq_false_iff_ne]; omega
    clear h
    go_enter Try.func98, Try.ntmps98
    go_wp2
    go_ret
    exact ⟨ret_string (by rw [HE.out]; simp [M.bytesOf]), (Below.refl _ _).alloc (Nat.le_refl _) _⟩
theorem giving_any (s : ByteArray) (w : World) (hs : s.size ≤ 255) :
    Calls Try.prog 99 #[.string s] w fun e w' => e = .returned (.string (M.giveT s)) ∧ Below w.heap.size w w' := by
  by_cases h : s.size = 0
  · have HE := hide (show M.giveT s = ⟨#[]⟩ from if_pos h)
    have e := text_nil h
    subst e
    go_enter Try.func99, Try.ntmps99
    go_wp2
    go_ret
    exact ⟨ret_string HE.out.symm, Below.refl _ _⟩
  · have HE := hide (show M.giveT s = M.bytesOf [1, s.size] ++ s from if_neg h)
    have hne := text_ne (r := s) (by omega)
    have hr := text_run w [1, (s.size : Int)] 2 rfl
    simp only [List.map_cons, List.map_nil] at hr
    have HT : Hid ((⟨#[UInt8.ofNat (1 : Int).toNat, UInt8.ofNat (s.size : Int).toNat]⟩ : ByteArray) = M.bytesOf [1, s.size]) := by
      show _ = _
      simp [M.bytesOf]
    have hTz : (M.bytesOf [1, s.size]).size ≤ 2 := Nat.le_refl _
    rw [show [UInt8.ofNat (1 : Int).toNat, UInt8.ofNat (s.size : Int).toNat].toArray = #[UInt8.ofNat (1 : Int).toNat, UInt8.ofNat (s.size : Int).toNat] from rfl, HT.out] at hr
    clear h HT
    generalize M.bytesOf [1, s.size] = T at *
    go_enter Try.func99, Try.ntmps99
    go_wp2
    go_ret
    exact ⟨ret_string HE.out.symm, (Below.refl _ _).alloc (Nat.le_refl _) _⟩

theorem between_any (b t : ByteArray) (w : World) (hb : b.size ≤ 96) (ht : t.size ≤ 96) :
    Calls Try.prog 62 #[.string b, .string t] w fun e w' => e = .returned (.string (M.diffT b t)) ∧ Below w.heap.size w w' := by
  obtain ⟨l1, l2⟩ := M.alk_le b t
  have HR : Hid ((M.mk (t.size - M.alk b t) fun j => M.bz t (M.alk b t + j)) = M.restT t (M.alk b t)) := rfl
  have HRZ := hide (M.restT_size t (M.alk b t))
  have HS : Hid (M.copyT (M.alk b t) ++ M.giveT (M.restT t (M.alk b t)) = M.shortT b t) := rfl
  have HC := hide (M.copyT_size (M.alk b t))
  have HGz := hide (M.giveT_size (M.restT t (M.alk b t)))
  have HDT : Hid (M.diffT b t = if (M.shortT b t).size < (M.giveT t).size then M.shortT b t else M.giveT t) := rfl
  go_enter Try.func62, Try.ntmps62
  go_wp2_with fail
  refine (alike_any b t _ (by omega) (by omega)).mono ?_
  rintro e w1 ⟨rfl, hb1⟩
  have HB1 := hide hb1
  have hsz1 := hb1.size
  clear hb1
  generalize M.alk b t = n at *
  go_wp2_with fail
  refine (part_yes_at t _ _ n (t.size - n) _ (by omega) (by omega) rfl (by omega)).mono ?_
  rintro e w' ⟨rfl, rfl⟩
  rw [HR.out]
  clear HR
  generalize M.restT t n = r at *
  have hrz : r.size ≤ 96 := by rw [HRZ.out]; omega
  go_wp2_with fail
  refine (copying_any n _ (by omega)).mono ?_
  rintro e w2 ⟨rfl, hb2⟩
  have HB2 := hide ((unhide HB1).trans (hb2.mono hsz1))
  have hsz2 := hb2.size
  clear hb2
  generalize M.copyT n = c at *
  have hcz : c.size ≤ 3 := by rw [HC.out]; split <;> omega
  go_wp2_with fail
  refine (giving_any r _ (by omega)).mono ?_
  rintro e w3 ⟨rfl, hb3⟩
  have HB3 := hide ((unhide HB2).trans (hb3.mono (by omega)))
  have hsz3 := hb3.size
  clear hb3
  have hgz : (M.giveT r).size ≤ 98 := by rw [HGz.out]; split <;> omega
  clear HGz
  generalize M.giveT r = g at *
  go_wp2_with fail
  refine (giving_any t _ (by omega)).mono ?_
  rintro e w4 ⟨rfl, hb4⟩
  have HB4 := hide ((unhide HB3).trans (hb4.mono (by omega)))
  clear hb4
  rw [HS.out]
  generalize M.shortT b t = S at *
  generalize M.giveT t = G at *
  by_cases hlt : S.size < G.size
  · have HE : Hid (M.diffT b t = S) := by rw [HDT.out, if_pos hlt]; rfl
    go_wp2
    go_ret
    exact ⟨ret_string HE.out.symm, unhide HB4⟩
  · have HE : Hid (M.diffT b t = G) := by rw [HDT.out, if_neg hlt]; rfl
    go_wp2
    go_ret
    exact ⟨ret_string HE.out.symm, unhide HB4⟩
theorem slotsDiff_ok (b t : ByteArray) (w : World) (hb : b.size ≤ 96) (ht : t.size ≤ 96) :
    Calls Try.prog 35 #[.string b, .string t] w fun e w' => e = .returned (.tuple #[.string (M.diffT b t), .int .i64 0]) ∧ Below w.heap.size w w' := by
  go_enter Try.func35, Try.ntmps35
  go_wp2_with fail
  refine (between_any b t _ hb ht).mono ?_
  rintro e w1 ⟨rfl, hb1⟩
  have HB1 := hide hb1
  clear hb1
  go_wp2
  go_ret2
  exact ⟨rfl, unhide HB1⟩
theorem slotsDiff_no (b t : ByteArray) (w : World) (_hb : b.size ≤ maxLen) (_ht : t.size ≤ maxLen) (h : 96 < b.size ∨ 96 < t.size) :
    Calls Try.prog 35 #[.string b, .string t] w fun e w' => e = .returned (.tuple #[.string ⟨#[]⟩, .int .i64 4]) ∧ w = w' := by
  unfold maxLen at _hb _ht
  by_cases h1 : 96 < b.size
  · clear h
    go_enter Try.func35, Try.ntmps35
    go_wp2
    go_ret2
    exact ⟨rfl, rfl⟩
  · have h2 : 96 < t.size := by omega
    clear h
    go_enter Try.func35, Try.ntmps35
    go_wp2
    go_ret2
    exact ⟨rfl, rfl⟩
end Go.Proofs.Ytjfmiomopfjecaa

/- slotsref.Differs, slotslaw.Diffs. -/
import Derived.Test.YtjfmiomopfjecaaDiffWalk
namespace Go.Proofs.Ytjfmiomopfjecaa
open Go.RowKit Go.Lib

theorem diff_res (b t : ByteArray) (ht : t.size ≤ 96) : M.patchTxt b (M.diffT b t) (t.size : Int) = t ∧ M.patchNum b (M.diffT b t) (t.size : Int) = 0 :=
  txt_some (res_some (M.diff_go b t ht) rfl)
theorem text_differ {a b : ByteArray} (h : a ≠ b) : (a.toList == b.toList) = false := by
  rw [beq_eq_false_iff_ne, ByteArray.toList_eq, ByteArray.toList_eq]
  intro e
  exact h (by cases a; cases b; congr; exact Array.ext' e)

theorem differs_no (b t : ByteArray) (w : World) (_hb : b.size ≤ maxLen) (_ht : t.size ≤ maxLen) (h : 96 < b.size ∨ 96 < t.size) :
    Calls Try.prog 36 #[.string b, .string t, .string ⟨#[]⟩, .int .i64 4] w fun e w' => e = .returned (.bool true) ∧ w = w' := by
  unfold maxLen at _hb _ht
  by_cases h1 : 96 < b.size
  · clear h
    go_enter Try.func36, Try.ntmps36
    go_wp2
    go_ret
    exact ⟨rfl, rfl⟩
  · have h2 : 96 < t.size := by omega
    clear h
    go_enter Try.func36, Try.ntmps36
    go_wp2
    go_ret
    exact ⟨rfl, rfl⟩
set_option maxRecDepth 10000 in
set_option maxHeartbeats 800000 in
theorem differs_ok (b t : ByteArray) (w : World) (hb : b.size ≤ 96) (ht : t.size ≤ 96) :
    Calls Try.prog 36 #[.string b, .string t, .string (M.diffT b t), .int .i64 0] w fun e w' => e = .returned (.bool true) ∧ Below w.heap.size w w' := by
  have d2 := M.diffT_two b t
  have d5 := M.diffT_five b t
  obtain ⟨hT, hN⟩ := diff_res b t ht
  obtain ⟨l1, l2⟩ := M.alk_le b t
  have HL : Hid (b = t ∧ (M.diffT b t).size ≤ 3 ∨ (b.toList == t.toList) = false) := by
    by_cases e : b = t
    · subst e; exact .inl ⟨rfl, M.diffT_same b⟩
    · exact .inr (text_differ e)
  have HP := hide (fun w => refPatch_any b (M.diffT b t) (t.size : Int) w (by omega) (by omega))
  rw [hT, hN] at HP
  clear hT hN
  generalize M.diffT b t = D at *
  go_enter Try.func36, Try.ntmps36
  go_wp2_with fail
  refine (unhide HP _).mono ?_
  rintro e w1 ⟨rfl, hb1⟩
  have HB1 := hide hb1
  clear hb1 HP
  go_wp2_with fail
  go_loopw [11] (fun i wr => ∃ k : Nat, k ≤ b.size ∧ i = .int .i64 k ∧ Hid (M.alkF b t (b.size - k) k = M.alk b t) ∧ Below w.heap.size w wr) (fun i _ => b.size - (intOf i).toNat)
  case atStart => exact ⟨0, by omega, rfl, rfl, unhide HB1⟩
  case round =>
    clear HB1
    obtain ⟨k, hk, rfl, hg, hbel⟩ := hrel
    have HB := hide hbel
    clear hbel
    have fin : Hid (M.alkF b t (b.size - k) k = k → k = M.alk b t) := fun h => h.symm.trans hg.out
    by_cases hgo : k < b.size ∧ k < t.size ∧ M.bz b k = M.bz t k
    · obtain ⟨h1, h2, h3⟩ := hgo
      have i1 : (k : Int) < (b.size : Int) := by omega
      have d1 : decide ((k : Int) < (b.size : Int)) = true := decide_eq_true i1
      have d1' : decide (k < b.size) = true := decide_eq_true h1
      have i2 : (k : Int) < (t.size : Int) := by omega
      have d2 : decide ((k : Int) < (t.size : Int)) = true := decide_eq_true i2
      have d2' : decide (k < t.size) = true := decide_eq_true h2
      have HN := hide ((M.alkF_go ⟨h1, h2, h3⟩).symm.trans hg.out)
      rw [← M.bz_at b k h1, ← M.bz_at t k h2] at h3
      have e3 : (((b[k]'h1).toNat : Int) == ((t[k]'h2).toNat : Int)) = true := by rw [beq_iff_eq]; omega
      clear h3
      go_wp2_with fail
      go_quiet (fail)
      go_wp2
      go_roundw
      case rel => exact ⟨k + 1, by omega, by go_num, HN, below_drewN' (unhide HB) _⟩
      case measure => simp [intOf]; omega
    · have hka : k = M.alk b t := fin.out (M.alkF_stop hgo)
      have k5 : D.size + k ≤ t.size + 5 := by omega
      have kt : k ≤ t.size := by omega
      have K5 := hide k5
      have q2 : ¬ (t.size : Int) + 2 < (D.size : Int) := by omega
      have q5 : ¬ (t.size : Int) - (k : Int) + 5 < (D.size : Int) := by omega
      clear hka k5 d5 l1 l2 hg fin
      by_cases h1 : k < b.size
      · have i1 : (k : Int) < (b.size : Int) := by omega
        have d1 : decide ((k : Int) < (b.size : Int)) = true := decide_eq_true i1
        have d1' : decide (k < b.size) = true := decide_eq_true h1
        by_cases h2 : k < t.size
        · have i2 : (k : Int) < (t.size : Int) := by omega
          have d2 : decide ((k : Int) < (t.size : Int)) = true := decide_eq_true i2
          have d2' : decide (k < t.size) = true := decide_eq_true h2
          have h3 : ¬ M.bz b k = M.bz t k := fun h => hgo ⟨h1, h2, h⟩
          rw [← M.bz_at b k h1, ← M.bz_at t k h2] at h3
          have e3 : (((b[k]'h1).toNat : Int) == ((t[k]'h2).toNat : Int)) = false := by rw [beq_eq_false_iff_ne]; omega
          clear h3 hgo
          go_wp2_with fail
          go_quiet (fail)
          rcases HL.out with ⟨rfl, h⟩ | h
          · go_wp2
            go_ret
            exact ⟨by simp; omega, below_drewN' (unhide HB) _⟩
          · go_wp2
            go_ret
            exact ⟨by simp, below_drewN' (unhide HB) _⟩
        · have d2 : decide ((k : Int) < (t.size : Int)) = false := decide_eq_false (by omega)
          have d2' : decide (k < t.size) = false := decide_eq_false h2
          clear hgo
          go_wp2_with fail
          go_quiet (fail)
          rcases HL.out with ⟨rfl, h⟩ | h
          · exact absurd h1 h2
          · go_wp2
            go_ret
            exact ⟨by simp, below_drewN' (unhide HB) _⟩
      · have d1 : decide ((k : Int) < (b.size : Int)) = false := decide_eq_false (by omega)
        have d1' : decide (k < b.size) = false := decide_eq_false h1
        clear hgo
        go_wp2_with fail
        go_quiet (fail)
        rcases HL.out with ⟨rfl, h⟩ | h
        · go_wp2
          go_ret
          exact ⟨by simp; omega, below_drewN' (unhide HB) _⟩
        · go_wp2
          go_ret
          exact ⟨by simp, below_drewN' (unhide HB) _⟩
theorem diffs_walk (b t : ByteArray) (w : World) (hb : b.size ≤ maxLen) (ht : t.size ≤ maxLen) :
    Calls Try.prog 10 #[.string b, .string t] w fun e w' => e = .returned (.bool true) ∧ Below w.heap.size w w' := by
  by_cases h : 96 < b.size ∨ 96 < t.size
  · go_enter Try.func10, Try.ntmps10
    go_wp2_with fail
    refine (slotsDiff_no b t _ hb ht h).mono ?_
    rintro e w' ⟨rfl, rfl⟩
    go_wp2_with fail
    refine (slotsDiff_no b t _ hb ht h).mono ?_
    rintro e w' ⟨rfl, rfl⟩
    go_wp2_with fail
    refine (lawNum_any _ _).mono ?_
    rintro e w' ⟨rfl, rfl⟩
    go_wp2_with fail
    refine (differs_no b t _ hb ht h).mono ?_
    rintro e w' ⟨rfl, rfl⟩
    go_wp2
    go_ret
    exact ⟨by simp, Below.refl _ _⟩
  · have hb' : b.size ≤ 96 := by omega
    have ht' : t.size ≤ 96 := by omega
    clear h
    go_enter Try.func10, Try.ntmps10
    go_wp2_with fail
    refine (slotsDiff_ok b t _ hb' ht').mono ?_
    rintro e w1 ⟨rfl, hb1⟩
    have HB1 := hide hb1
    have hsz1 := hb1.size
    clear hb1
    go_wp2_with fail
    refine (slotsDiff_ok b t _ hb' ht').mono ?_
    rintro e w2 ⟨rfl, hb2⟩
    have HB2 := hide ((unhide HB1).trans (hb2.mono hsz1))
    have hsz2 := hb2.size
    clear hb2
    go_wp2_with fail
    refine (lawNum_any _ _).mono ?_
    rintro e w' ⟨rfl, rfl⟩
    go_wp2_with fail
    refine (differs_ok b t _ hb' ht').mono ?_
    rintro e w3 ⟨rfl, hb3⟩
    have HB3 := hide ((unhide HB2).trans (hb3.mono (by omega)))
    clear hb3
    generalize M.diffT b t = D at *
    go_wp2
    go_ret
    exact ⟨by simp, unhide HB3⟩
end Go.Proofs.Ytjfmiomopfjecaa

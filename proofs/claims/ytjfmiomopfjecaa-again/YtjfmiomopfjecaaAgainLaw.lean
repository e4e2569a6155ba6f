/- slotskeep.Again. -/
import Derived.Test.YtjfmiomopfjecaaDiffLaw
namespace Go.Proofs.Ytjfmiomopfjecaa
open Go.RowKit Go.Lib

set_option maxRecDepth 10000 in
theorem kAlike_any (a b : ByteArray) (w : World) (ha : a.size ≤ 2000000) (_hb : b.size ≤ 2000000) :
    Calls Try.prog 37 #[.string a, .string b] w fun e w' => e = .returned (.int .i64 (M.alk a b)) ∧ Below w.heap.size w w' := by
  go_enter Try.func37, Try.ntmps37
  go_wp2_with fail
  go_loopw [5] (fun i wr => ∃ k : Nat, k ≤ a.size ∧ i = .int .i64 k ∧ Hid (M.alkF a b (a.size - k) k = M.alk a b) ∧ Below w.heap.size w wr) (fun i _ => a.size - (intOf i).toNat)
  case atStart => exact ⟨0, by omega, rfl, rfl, Below.refl _ _⟩
  case round =>
    obtain ⟨k, hk, rfl, hg, hbel⟩ := hrel
    have HB := hide hbel
    clear hbel
    by_cases h1 : k < a.size
    · have i1 : (k : Int) < (a.size : Int) := by omega
      have d1 : decide ((k : Int) < (a.size : Int)) = true := decide_eq_true i1
      have d1' : decide (k < a.size) = true := decide_eq_true h1
      by_cases h2 : k < b.size
      · have i2 : (k : Int) < (b.size : Int) := by omega
        have d2 : decide ((k : Int) < (b.size : Int)) = true := decide_eq_true i2
        have d2' : decide (k < b.size) = true := decide_eq_true h2
        by_cases h3 : M.bz a k = M.bz b k
        · have HN := hide ((M.alkF_go ⟨h1, h2, h3⟩).symm.trans hg.out)
          rw [← M.bz_at a k h1, ← M.bz_at b k h2] at h3
          have e3 : (((a[k]'h1).toNat : Int) == ((b[k]'h2).toNat : Int)) = true := by rw [beq_iff_eq]; omega
          clear h3
          go_wp2_with fail
          go_quiet (fail)
          go_wp2
          go_roundw
          case rel => exact ⟨k + 1, by omega, by go_num, HN, below_drewN' (unhide HB) _⟩
          case measure => simp [intOf]; omega
        · have HN := hide ((M.alkF_stop (f := a.size - k) (fun h => h3 h.2.2)).symm.trans hg.out)
          rw [← M.bz_at a k h1, ← M.bz_at b k h2] at h3
          have e3 : (((a[k]'h1).toNat : Int) == ((b[k]'h2).toNat : Int)) = false := by rw [beq_eq_false_iff_ne]; omega
          clear h3
          go_wp2_with fail
          go_quiet (fail)
          go_wp2
          go_ret
          exact ⟨ret_int (by rw [HN.out]), below_drewN' (unhide HB) _⟩
      · have HN := hide ((M.alkF_stop (f := a.size - k) (fun h => h2 h.2.1)).symm.trans hg.out)
        have d2 : decide ((k : Int) < (b.size : Int)) = false := decide_eq_false (by omega)
        have d2' : decide (k < b.size) = false := decide_eq_false h2
        go_wp2_with fail
        go_quiet (fail)
        go_wp2
        go_ret
        exact ⟨ret_int (by rw [HN.out]), below_drewN' (unhide HB) _⟩
    · have HN := hide ((M.alkF_stop (f := a.size - k) (fun h => h1 h.1)).symm.trans hg.out)
      have d1 : decide ((k : Int) < (a.size : Int)) = false := decide_eq_false (by omega)
      have d1' : decide (k < a.size) = false := decide_eq_false h1
      go_wp2_with fail
      go_quiet (fail)
      go_wp2
      go_ret
      exact ⟨ret_int (by rw [HN.out]), below_drewN' (unhide HB) _⟩


/-- a patch that holds the bytes themselves -/
def ownT (s : ByteArray) : ByteArray := M.bytesOf [1, s.size] ++ s
theorem own_go (b s : ByteArray) (hs : s.size ≤ 255) : M.goFrom b (ownT s) 0 ⟨#[]⟩ = some s := by
  unfold ownT
  have hz : (M.bytesOf [1, s.size] ++ s).size = 2 + s.size := by rw [ByteArray.size_append]; rfl
  have all : M.AllB [1, s.size] := by intro y hy; simp at hy; omega
  have e2 : (M.bytesOf [1, s.size]).size = 2 := rfl
  have b0 : M.bz (M.bytesOf [1, s.size] ++ s) 0 = 1 := by rw [M.bz_append, if_pos (by rw [e2]; omega), M.bz_bytesOf all]; rfl
  have b1 : M.bz (M.bytesOf [1, s.size] ++ s) 1 = s.size := by rw [M.bz_append, if_pos (by rw [e2]; omega), M.bz_bytesOf all]; rfl
  have b2 : ∀ j, M.bz (M.bytesOf [1, s.size] ++ s) (2 + j) = M.bz s j := by
    intro j
    rw [M.bz_append, if_neg (by rw [e2]; omega), e2]
    congr 1
    omega
  have hl : M.opLen (M.bytesOf [1, s.size] ++ s) 0 = 2 + s.size := by simp [M.opLen, b0, b1]
  have hok : M.opOk b (M.bytesOf [1, s.size] ++ s) 0 = true := by
    unfold M.opOk M.opThere M.opFits
    rw [hl, b0, hz]
    simp
  have hg : M.opGives b (M.bytesOf [1, s.size] ++ s) 0 = s := by
    have hc : M.opCount (M.bytesOf [1, s.size] ++ s) 0 = s.size := by simp [M.opCount, b0, b1]
    unfold M.opGives
    rw [hc]
    refine Eq.trans (M.mk_congr fun j hj => ?_) (M.self_mk s).symm
    unfold M.opByte
    rw [b0, if_neg (by omega), if_pos rfl, Nat.zero_add, b2]
  rw [M.goFrom_ok (by omega) hok, hg, hl, M.goFrom_end (by omega), M.nil_append]
theorem own_res (b s : ByteArray) (hs : s.size ≤ 255) : M.patchTxt b (ownT s) (s.size : Int) = s ∧ M.patchNum b (ownT s) (s.size : Int) = 0 :=
  txt_some (res_some (own_go b s hs) rfl)

theorem patch_yes (b p t : ByteArray) (w : World) (hp : p.size ≤ 2000000) (hb : b.size ≤ 2000000) (h : M.patchTxt b p (t.size : Int) = t ∧ M.patchNum b p (t.size : Int) = 0) :
    Calls Try.prog 33 #[.string b, .string p, .int .i64 t.size] w fun e w' => e = .returned (.tuple #[.string t, .int .i64 0]) ∧ Below w.heap.size w w' := by
  have := slotsPatch_any b p (t.size : Int) w hp hb
  rw [h.1, h.2] at this
  exact this

set_option maxRecDepth 10000 in
set_option maxHeartbeats 800000 in
theorem again_walk (x y : ByteArray) (w : World) (hx : x.size ≤ maxLen) (hy : y.size ≤ maxLen) :
    Calls Try.prog 11 #[.string x, .string y] w fun e w' => e = .returned (.bool true) ∧ Below w.heap.size w w' := by
  have hbz := fstT_size x 96
  have htz := fstT_size y 96
  go_enter Try.func11, Try.ntmps11
  go_wp2_with fail
  refine (kFirst_any x 96 _ hx (by omega)).mono ?_
  rintro e w' ⟨rfl, rfl⟩
  go_wp2_with fail
  refine (kFirst_any y 96 _ hy (by omega)).mono ?_
  rintro e w' ⟨rfl, rfl⟩
  generalize fstT x 96 = b at *
  generalize fstT y 96 = t at *
  have hb : b.size ≤ 96 := by omega
  have ht : t.size ≤ 96 := by omega
  clear hbz htz
  have d2 := M.diffT_two b t
  have d5 := M.diffT_five b t
  have D0 := hide (diff_res b t ht)
  have S0 := hide (diff_res t t ht)
  have s3 := M.diffT_same t
  have O0 := hide (own_res b t (by omega))
  obtain ⟨l1, l2⟩ := M.alk_le b t
  go_wp2_with fail
  refine (slotsDiff_ok b t _ hb ht).mono ?_
  rintro e w1 ⟨rfl, hb1⟩
  have HB1 := hide hb1
  have hsz1 := hb1.size
  clear hb1
  generalize M.diffT b t = D at *
  go_wp2_with fail
  refine (patch_yes b D t _ (by omega) (by omega) D0.out).mono ?_
  rintro e w2 ⟨rfl, hb2⟩
  have HB2 := hide ((unhide HB1).trans (hb2.mono hsz1))
  have hsz2 := hb2.size
  clear hb2 D0
  have q2 : ¬ (t.size : Int) + 2 < (D.size : Int) := by omega
  go_wp2_with fail
  refine (kAlike_any b t _ (by omega) (by omega)).mono ?_
  rintro e w3 ⟨rfl, hb3⟩
  have HB3 := hide ((unhide HB2).trans (hb3.mono (by omega)))
  have hsz3 := hb3.size
  clear hb3
  generalize M.alk b t = k at *
  have q5 : ¬ (t.size : Int) - (k : Int) + 5 < (D.size : Int) := by omega
  go_wp2_with fail
  refine (slotsDiff_ok t t _ ht ht).mono ?_
  rintro e w4 ⟨rfl, hb4⟩
  have HB4 := hide ((unhide HB3).trans (hb4.mono (by omega)))
  have hsz4 := hb4.size
  clear hb4
  generalize M.diffT t t = T at *
  go_wp2_with fail
  refine (patch_yes t T t _ (by omega) (by omega) S0.out).mono ?_
  rintro e w5 ⟨rfl, hb5⟩
  have HB5 := hide ((unhide HB4).trans (hb5.mono (by omega)))
  have hsz5 := hb5.size
  clear hb5 S0
  go_wp2_with fail
  refine (kOne_any t.size _ (by omega)).mono ?_
  rintro e w6 ⟨rfl, hb6⟩
  have HB6 := hide ((unhide HB5).trans (hb6.mono (by omega)))
  have hsz6 := hb6.size
  clear hb6
  have HT : Hid ((⟨#[1]⟩ : ByteArray) ++ M.bytesOf [t.size] ++ t = ownT t) := by
    show _ = _
    unfold ownT
    rw [show (⟨#[1]⟩ : ByteArray) = M.bytesOf [1] from rfl, M.bytesOf_append]
    rfl
  have hoz : (M.bytesOf [t.size]).size ≤ 1 := Nat.le_refl _
  have hoz2 : (ownT t).size ≤ 98 := by unfold ownT; rw [ByteArray.size_append]; show 2 + _ ≤ _; omega
  go_wp2_with fail
  rw [HT.out]
  refine (patch_yes b (ownT t) t _ (by omega) (by omega) O0.out).mono ?_
  rintro e w7 ⟨rfl, hb7⟩
  have HB7 := hide ((unhide HB6).trans (hb7.mono (by omega)))
  clear hb7 O0
  go_wp2
  go_ret
  exact ⟨by simp, unhide HB7⟩
end Go.Proofs.Ytjfmiomopfjecaa

/- The document's Code. -/
import Derived.Test.YtjfmiomopfjecaaNetFits
import Derived.Test.YtjfmiomopfjecaaCodeMath
namespace Go.Proofs.Ytjfmiomopfjecaa
open Go.RowKit

theorem chead_ref {s : ByteArray} (h : M.cHead s = false) :
    ¬ (refNum s 0 = 75 ∧ 1 ≤ refNum s 1 ∧ refNum s 1 ≤ 4 ∧ refNum s 1 ≤ refNum s 2 ∧ refNum s 2 ≤ 32 ∧ 1 ≤ refNum s 3 ∧ refNum s 3 ≤ 4 ∧ 0 ≤ refNum s 4 ∧ refNum s 4 ≤ 48 ∧ (s.size : Int) = 5 + refNum s 3 + 4 * refNum s 4) := by
  intro ⟨h0, h1, h2, h3, h4, h5, h6, h7, h8, h9⟩
  have k4 : 4 < s.size := by
    by_cases e : 4 < s.size
    · exact e
    · have : refNum s 4 = -1 := if_neg e
      omega
  rw [refNum_in (by omega)] at h0
  rw [refNum_in (by omega)] at h1 h2
  rw [refNum_in (by omega), refNum_in (by omega)] at h3
  rw [refNum_in (by omega)] at h4
  rw [refNum_in (by omega)] at h5 h6
  rw [refNum_in (by omega)] at h7 h8
  rw [refNum_in (by omega), refNum_in (by omega)] at h9
  exact M.cHead_no h (by omega)

set_option maxHeartbeats 1600000 in
theorem refCode_no (s : ByteArray) (w : World) (hs : s.size ≤ maxLen) (h : M.cHead s = false) :
    Calls Try.prog 51 #[.string s] w fun e w' => e = .returned (.bool false) ∧ w = w' := by
  have hn := chead_ref h
  have b0 := refNum_bd s 0
  have b1 := refNum_bd s 1
  have b2 := refNum_bd s 2
  have b3 := refNum_bd s 3
  have b4 := refNum_bd s 4
  have hs' := hs
  unfold maxLen at hs'
  clear h
  go_enter Try.func51, Try.ntmps51
  go_wp2_with fail
  refine (refNumber_any s 1 _ hs (by omega)).mono ?_
  rintro e w' ⟨rfl, rfl⟩
  rw [show (1 : Int).toNat = 1 from rfl]
  generalize refNum s 1 = n at *
  go_wp2_with fail
  refine (refNumber_any s 2 _ hs (by omega)).mono ?_
  rintro e w' ⟨rfl, rfl⟩
  rw [show (2 : Int).toNat = 2 from rfl]
  generalize refNum s 2 = c at *
  go_wp2_with fail
  refine (refNumber_any s 3 _ hs (by omega)).mono ?_
  rintro e w' ⟨rfl, rfl⟩
  rw [show (3 : Int).toNat = 3 from rfl]
  generalize refNum s 3 = k at *
  go_wp2_with fail
  refine (refNumber_any s 4 _ hs (by omega)).mono ?_
  rintro e w' ⟨rfl, rfl⟩
  rw [show (4 : Int).toNat = 4 from rfl]
  generalize refNum s 4 = m at *
  go_wp2_with fail
  refine (refNumber_any s 0 _ hs (by omega)).mono ?_
  rintro e w' ⟨rfl, rfl⟩
  rw [show (0 : Int).toNat = 0 from rfl]
  generalize refNum s 0 = z at *
  by_cases c0 : z = 75
  · subst c0
    by_cases c1 : n < 1
    · clear hn
      go_wp2
      go_ret
      exact ⟨rfl, rfl⟩
    · by_cases c2 : 4 < n
      · clear hn
        go_wp2
        go_ret
        exact ⟨rfl, rfl⟩
      · by_cases c3 : c < n
        · clear hn
          go_wp2
          go_ret
          exact ⟨rfl, rfl⟩
        · by_cases c4 : 32 < c
          · clear hn
            go_wp2
            go_ret
            exact ⟨rfl, rfl⟩
          · by_cases c5 : k < 1
            · clear hn
              go_wp2
              go_ret
              exact ⟨rfl, rfl⟩
            · by_cases c6 : 4 < k
              · clear hn
                go_wp2
                go_ret
                exact ⟨rfl, rfl⟩
              · by_cases c7 : m < 0
                · clear hn
                  go_wp2
                  go_ret
                  exact ⟨rfl, rfl⟩
                · by_cases c8 : 48 < m
                  · clear hn
                    go_wp2
                    go_ret
                    exact ⟨rfl, rfl⟩
                  · have c9 : ((s.size : Int) != 5 + k + 4 * m) = true := by rw [bne_iff_ne]; omega
                    clear hn
                    go_wp2
                    go_ret
                    exact ⟨rfl, rfl⟩
  · have c0' : (z != 75) = true := by rw [bne_iff_ne]; exact c0
    clear hn
    go_wp2
    go_ret
    exact ⟨rfl, rfl⟩

set_option maxHeartbeats 1600000 in
theorem refCode_yes (s : ByteArray) (w : World) (hs : s.size ≤ maxLen) (h : M.cHead s = true) :
    Calls Try.prog 51 #[.string s] w fun e w' => e = .returned (.bool (M.isCode s)) ∧ w = w' := by
  obtain ⟨h0, h1, h2, h3, h4, h5, h6, h7, h8⟩ := M.cHead_eq h
  have HI : Hid (∀ b, M.isCode s = b → Ending.returned (.bool b) = .returned (.bool (M.isCode s))) := fun b e => by rw [e]
  have HF : Hid ((M.cOuts s (M.bz s 3) && M.cSteps s (M.bz s 4)) = false → M.isCode s = false) := fun e => by unfold M.isCode; rw [e]; simp
  have HF1 : Hid (∀ k, k < M.bz s 3 → ¬ M.bz s (5 + k) < M.bz s 2 → M.isCode s = false) := fun k hk e => HF.out (M.code_outs hk e)
  have HF2 : Hid (∀ k, k < M.bz s 4 → (M.okOp (M.bz s (5 + M.bz s 3 + 4 * k)) (M.bz s (5 + M.bz s 3 + 4 * k + 2)) (M.bz s (5 + M.bz s 3 + 4 * k + 3)) (M.bz s 2) && decide (M.bz s (5 + M.bz s 3 + 4 * k + 1) < M.bz s 2)) = false → M.isCode s = false) := fun k hk e => HF.out (M.code_steps hk e)
  have HN : Hid (∀ k, M.cOuts s k = true → M.bz s (5 + k) < M.bz s 2 → M.cOuts s (k + 1) = true) := fun k a b => M.cOuts_next a b
  have HO : Hid (∀ k, M.cSteps s k = true → (M.okOp (M.bz s (5 + M.bz s 3 + 4 * k)) (M.bz s (5 + M.bz s 3 + 4 * k + 2)) (M.bz s (5 + M.bz s 3 + 4 * k + 3)) (M.bz s 2) && decide (M.bz s (5 + M.bz s 3 + 4 * k + 1) < M.bz s 2)) = true → M.cSteps s (k + 1) = true) := fun k a b => M.cSteps_next a b
  have HT : Hid (M.cOuts s (M.bz s 3) = true → M.cSteps s (M.bz s 4) = true → M.isCode s = true) := fun a b => by unfold M.isCode; rw [h, a, b]; rfl
  have H0 := hide h0
  clear h HF
  go_enter Try.func51, Try.ntmps51
  clear h0
  go_wp2_with fail
  refine (refNumber_in s 1 _ hs (by omega) (by omega)).mono ?_
  rintro e w' ⟨rfl, rfl⟩
  rw [show (1 : Int).toNat = 1 from rfl]
  go_wp2_with fail
  refine (refNumber_in s 2 _ hs (by omega) (by omega)).mono ?_
  rintro e w' ⟨rfl, rfl⟩
  rw [show (2 : Int).toNat = 2 from rfl]
  go_wp2_with fail
  refine (refNumber_in s 3 _ hs (by omega) (by omega)).mono ?_
  rintro e w' ⟨rfl, rfl⟩
  rw [show (3 : Int).toNat = 3 from rfl]
  go_wp2_with fail
  refine (refNumber_in s 4 _ hs (by omega) (by omega)).mono ?_
  rintro e w' ⟨rfl, rfl⟩
  rw [show (4 : Int).toNat = 4 from rfl]
  go_wp2_with fail
  refine (refNumber_in s 0 _ hs (by omega) (by omega)).mono ?_
  rintro e w' ⟨rfl, rfl⟩
  rw [show (0 : Int).toNat = 0 from rfl, H0.out]
  generalize M.bz s 1 = n at *
  generalize M.bz s 2 = c at *
  generalize M.bz s 3 = o at *
  generalize M.bz s 4 = m at *
  have hsz : ((s.size : Int) != 5 + (o : Int) + 4 * (m : Int)) = false := by rw [bne_eq_false_iff_eq]; omega
  have hlo : 5 + o + 4 * m ≤ s.size := by omega
  have hhi : s.size ≤ 5 + o + 4 * m := by omega
  clear h8
  have d1 : decide ((n : Int) < 1) = false := decide_eq_false (by omega)
  have d2 : decide ((4 : Int) < (n : Int)) = false := decide_eq_false (by omega)
  have d3 : decide ((c : Int) < (n : Int)) = false := decide_eq_false (by omega)
  have d3n : decide (c < n) = false := decide_eq_false (by omega)
  have d4 : decide ((32 : Int) < (c : Int)) = false := decide_eq_false (by omega)
  have d5 : decide ((o : Int) < 1) = false := decide_eq_false (by omega)
  have d6 : decide ((4 : Int) < (o : Int)) = false := decide_eq_false (by omega)
  have d7 : decide ((m : Int) < 0) = false := decide_eq_false (by omega)
  have d8 : decide ((48 : Int) < (m : Int)) = false := decide_eq_false (by omega)
  go_wp2_with fail
  clear hsz d1 d2 d3 d3n d4 d5 d6 d7 d8
  go_loop [7] (fun i => ∃ k : Nat, k ≤ o ∧ i = .int .i64 (5 + k : Nat) ∧ Hid (M.cOuts s k = true)) (fun i => 5 + o - (intOf i).toNat)
  case atStart => exact ⟨0, by omega, by go_num, rfl⟩
  case round =>
    obtain ⟨k, hk, rfl, hout⟩ := hrel
    by_cases hlt : k < o
    · have b1 := M.bz_lt s (5 + k)
      go_wp2_with fail
      refine (refNumber_in s _ _ hs (by omega) (by omega)).mono ?_
      rintro e w' ⟨rfl, rfl⟩
      rw [show (5 + (k : Int)).toNat = 5 + k from by omega]
      by_cases hle : M.bz s (5 + k) < c
      · have HR := hide (HN.out k hout.out hle)
        generalize M.bz s (5 + k) = x at *
        go_wp2
        go_round
        case rel => exact ⟨k + 1, by omega, by go_num, HR⟩
        case measure => simp [intOf]; omega
      · have HR := hide (HI.out false (HF1.out k hlt hle))
        generalize M.bz s (5 + k) = x at *
        go_wp2
        go_ret
        exact ⟨HR.out, rfl⟩
    · have hko : k = o := by omega
      subst hko
      clear hlt
      go_wp2_with fail
      go_loop [8] (fun i => ∃ j : Nat, j ≤ m ∧ i = .int .i64 (5 + k + 4 * j : Nat) ∧ Hid (M.cSteps s j = true)) (fun i => s.size - (intOf i).toNat)
      case atStart => exact ⟨0, by omega, by go_num, rfl⟩
      case round =>
        obtain ⟨j, hj, rfl, hst⟩ := hrel
        by_cases hlt : j < m
        · have b1 := M.bz_lt s (5 + k + 4 * j)
          have b2 := M.bz_lt s (5 + k + 4 * j + 2)
          have b3 := M.bz_lt s (5 + k + 4 * j + 3)
          have b4 := M.bz_lt s (5 + k + 4 * j + 1)
          have HF2' := hide (HF2.out j hlt)
          have HO' := hide (HO.out j hst.out)
          go_wp2_with fail
          refine (refNumber_in s _ _ hs (by omega) (by omega)).mono ?_
          rintro e w' ⟨rfl, rfl⟩
          rw [show (5 + (k : Int) + 4 * (j : Int)).toNat = 5 + k + 4 * j from by omega]
          go_wp2_with fail
          refine (refNumber_in s _ _ hs (by omega) (by omega)).mono ?_
          rintro e w' ⟨rfl, rfl⟩
          rw [show (5 + (k : Int) + 4 * (j : Int) + 2).toNat = 5 + k + 4 * j + 2 from by omega]
          go_wp2_with fail
          refine (refNumber_in s _ _ hs (by omega) (by omega)).mono ?_
          rintro e w' ⟨rfl, rfl⟩
          rw [show (5 + (k : Int) + 4 * (j : Int) + 3).toNat = 5 + k + 4 * j + 3 from by omega]
          generalize M.bz s (5 + k + 4 * j) = x at *
          generalize M.bz s (5 + k + 4 * j + 2) = y at *
          generalize M.bz s (5 + k + 4 * j + 3) = z at *
          go_wp2_with fail
          refine (refAllowed_any _ _ _ _ _ b1 b2 b3 (by omega)).mono ?_
          rintro e w' ⟨rfl, rfl⟩
          cases hok : M.okOp x y z c
          · have HR := hide (HI.out false (HF2'.out (by rw [hok]; rfl)))
            clear hok
            go_wp2
            go_ret
            exact ⟨HR.out, rfl⟩
          · have HF3 : Hid (¬ M.bz s (5 + k + 4 * j + 1) < c → M.isCode s = false) := fun e => HF2'.out (by rw [hok]; simpa using e)
            have HO3 : Hid (M.bz s (5 + k + 4 * j + 1) < c → M.cSteps s (j + 1) = true) := fun e => HO'.out (by rw [hok]; simpa using e)
            clear hok HF2' HO'
            go_wp2_with fail
            refine (refNumber_in s _ _ hs (by omega) (by omega)).mono ?_
            rintro e w' ⟨rfl, rfl⟩
            rw [show (5 + (k : Int) + 4 * (j : Int) + 1).toNat = 5 + k + 4 * j + 1 from by omega]
            generalize M.bz s (5 + k + 4 * j + 1) = t at *
            by_cases hle : t < c
            · have HR := hide (HO3.out hle)
              go_wp2
              go_round
              case rel => exact ⟨j + 1, by omega, by go_num, HR⟩
              case measure => simp [intOf]; omega
            · have HR := hide (HI.out false (HF3.out hle))
              go_wp2
              go_ret
              exact ⟨HR.out, rfl⟩
        · have hjm : j = m := by omega
          subst hjm
          have HR := hide (HI.out true (HT.out hout.out hst.out))
          go_wp2
          go_ret
          exact ⟨HR.out, rfl⟩
theorem refCode_any (s : ByteArray) (w : World) (hs : s.size ≤ maxLen) :
    Calls Try.prog 51 #[.string s] w fun e w' => e = .returned (.bool (M.isCode s)) ∧ w = w' := by
  cases h : M.cHead s
  · have e : M.isCode s = false := by unfold M.isCode; rw [h]; rfl
    rw [e]
    exact refCode_no s w hs h
  · exact refCode_yes s w hs h
end Go.Proofs.Ytjfmiomopfjecaa

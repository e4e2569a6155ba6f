/- slotsref.Compiled, slotslaw.Compiles. -/
import Derived.Test.YtjfmiomopfjecaaBoundAll
import Derived.Test.YtjfmiomopfjecaaCompAll
import Derived.Test.YtjfmiomopfjecaaCodeExec
namespace Go.Proofs.Ytjfmiomopfjecaa
open Go.RowKit

theorem made_op {s : ByteArray} (hs : M.isImage s = true) {q : Nat} (hq : q < M.cnt s (M.bz s 2)) : M.bz (M.codeT s) (5 + M.bz s 3 + 4 * q) = M.opOf s q := by
  obtain ⟨k, hk, hn, rfl⟩ := M.cnt_find hq
  have e := M.code_step hs hk hn (c := 0) (by omega)
  unfold M.stepAt at e
  rw [(M.code_head hs).2.2.2.1, Nat.add_zero] at e
  rw [e, M.opOf_node hk hn]
  rfl
theorem cz_succ (s : ByteArray) (q : Nat) : M.czP s (q + 1) = if decide (M.opOf s q = 0) = true then M.czP s q + 1 else M.czP s q := rfl

theorem refCompiled_no (s : ByteArray) (w : World) (hs : s.size ≤ maxLen) (h : M.isImage s = false) :
    Calls Try.prog 32 #[.string s, .string ⟨#[]⟩, .int .i64 1] w fun e w' => e = .returned (.bool true) ∧ w = w' := by
  go_enter Try.func32, Try.ntmps32
  go_wp2_with fail
  refine (refImage_any s _ hs).mono ?_
  rintro e w' ⟨rfl, rfl⟩
  rw [h]
  go_wp2
  go_ret
  exact ⟨rfl, rfl⟩
set_option maxHeartbeats 1600000 in
theorem refCompiled_ok (s : ByteArray) (w : World) (h : M.isImage s = true) :
    Calls Try.prog 32 #[.string s, .string (M.codeT s), .int .i64 0] w fun e w' => e = .returned (.bool true) ∧ Below w.heap.size w w' := by
  obtain ⟨h0, h1, h2, h3, h4, h5, h6⟩ := M.headOk_eq (M.image_headOk h)
  have hs : s.size ≤ maxLen := by unfold maxLen; omega
  have hcn := M.cnt_le s (M.bz s 2)
  have hz := M.codeT_size s
  have hzm : (M.codeT s).size ≤ maxLen := by unfold maxLen; omega
  obtain ⟨_, c1, c2, c3, c4⟩ := M.code_head h
  have HCODE := hide (M.code_isCode h)
  have hbd := M.code_bounds h
  have HBD := hide (fun w => refBounds_any s (M.bz s 1) (M.bz s 2) w h rfl rfl)
  have HOPS : Hid (∀ q, q < M.cnt s (M.bz s 2) → M.bz (M.codeT s) (5 + M.bz s 3 + 4 * q) = M.opOf s q) := fun q hq => made_op h hq
  have HNI := hide (fun (i : Nat) (k : Int) w (hk : k = i) (hi : i < s.size) => refNum_at s k i w hs hk hi)
  have HNC := hide (fun (i : Nat) (k : Int) w (hk : k = i) (hi : i < (M.codeT s).size) => refNum_at (M.codeT s) k i w hzm hk hi)
  have HPC : Hid (M.cntP (pc s) (M.bz s 2) = M.constsB s) := rfl
  have HPO : Hid (M.cntP (po s) (M.bz s 2) = M.othersB s) := rfl
  have HIMG := hide h
  have HZS := hide (M.czP_le s)
  rw [HPC.out, HPO.out] at HBD
  have HC1 := hide c1
  have HC2 := hide c2
  have HC3 := hide c3
  have HC4 := hide c4
  obtain ⟨hbd1, hbd2⟩ := hbd
  have hs4 : 4 ≤ s.size := by omega
  clear h h0 h6 c1 c2 c3 c4 HPC HPO
  go_enter Try.func32, Try.ntmps32
  go_wp2_with fail
  refine (refImage_any s _ hs).mono ?_
  rintro e w' ⟨rfl, rfl⟩
  rw [HIMG.out]
  go_wp2_with fail
  refine (refCode_any (M.codeT s) _ hzm).mono ?_
  rintro e w' ⟨rfl, rfl⟩
  rw [HCODE.out]
  go_wp2_with fail
  refine (unhide HNC 1 _ _ rfl (by omega)).mono ?_
  rintro e w' ⟨rfl, rfl⟩
  rw [HC1.out]
  go_wp2_with fail
  refine (unhide HNI 1 _ _ rfl (by omega)).mono ?_
  rintro e w' ⟨rfl, rfl⟩
  go_wp2_with fail
  refine (unhide HNC 3 _ _ rfl (by omega)).mono ?_
  rintro e w' ⟨rfl, rfl⟩
  rw [HC3.out]
  go_wp2_with fail
  refine (unhide HNI 3 _ _ rfl (by omega)).mono ?_
  rintro e w' ⟨rfl, rfl⟩
  go_wp2_with fail
  refine (unhide HNC 3 _ _ rfl (by omega)).mono ?_
  rintro e w' ⟨rfl, rfl⟩
  rw [HC3.out]
  have HSU := hide (cz_succ s)
  generalize M.cnt s (M.bz s 2) = t at *
  generalize M.bz s 1 = n at *
  generalize M.bz s 2 = m at *
  generalize M.bz s 3 = c at *
  generalize M.constsB s = CB at *
  generalize M.othersB s = OB at *
  generalize M.codeT s = T at *
  have hz1 : T.size ≤ 5 + c + 4 * t := by omega
  have hz2 : 5 + c + 4 * t ≤ T.size := by omega
  clear hz
  go_wp2_with fail
  go_loop [8, 9, 10] (fun a b i => ∃ q x y p : Nat, q ≤ t ∧ p = 5 + c + 4 * q ∧ i = .int .i64 p ∧ a = .int .i64 x ∧ b = .int .i64 y ∧ Hid (M.czP s q = x) ∧ x + y = q) (fun _ _ i => T.size - (intOf i).toNat)
  case atStart => exact ⟨0, 0, 0, 5 + c, by omega, by omega, by go_num, rfl, rfl, rfl, rfl⟩
  case round =>
    obtain ⟨q, x, y, p, hq, hp, rfl, rfl, rfl, hx, hxy⟩ := hrel
    have hp1 : p ≤ 5 + c + 4 * q := by omega
    have hp2 : 5 + c + 4 * q ≤ p := by omega
    by_cases hlt : q < t
    · have HOP := hide (HOPS.out q hlt)
      rw [← hp] at HOP
      have HS1 := hide (HSU.out q)
      clear hp
      go_wp2_with fail
      refine (unhide HNC p _ _ rfl (by omega)).mono ?_
      rintro e w' ⟨rfl, rfl⟩
      rw [HOP.out]
      rw [hx.out] at HS1
      clear HOP
      generalize M.opOf s q = o at *
      by_cases ho : o = 0
      · have HN : Hid (M.czP s (q + 1) = x + 1) := by rw [HS1.out, decide_eq_true ho]; rfl
        subst ho
        clear HS1
        go_wp2
        go_round
        case rel => exact ⟨q + 1, x + 1, y, p + 4, by omega, by omega, by go_num, by go_num, rfl, HN, by omega⟩
        case measure => simp [intOf]; omega
      · have HN : Hid (M.czP s (q + 1) = x) := by rw [HS1.out, decide_eq_false ho]; rfl
        have b0 : ((o : Int) == 0) = false := by rw [beq_eq_false_iff_ne]; omega
        clear HS1 ho
        go_wp2
        go_round
        case rel => exact ⟨q + 1, x, y + 1, p + 4, by omega, by omega, by go_num, rfl, by go_num, HN, by omega⟩
        case measure => simp [intOf]; omega
    · have hqt : t = q := by omega
      subst hqt
      rw [hx.out] at hbd1 hbd2
      have l1 : x ≤ CB := hbd1
      have l2 : y ≤ OB := by omega
      clear hp hbd1 hbd2
      go_wp2_with fail
      refine (unhide HBD _).mono ?_
      rintro e w1 ⟨rfl, hb1⟩
      have HB1 := hide hb1
      clear hb1
      go_wp2_with fail
      refine (unhide HNC 2 _ _ rfl (by omega)).mono ?_
      rintro e w' ⟨rfl, rfl⟩
      rw [HC2.out]
      go_wp2_with fail
      refine (unhide HNC 1 _ _ rfl (by omega)).mono ?_
      rintro e w' ⟨rfl, rfl⟩
      rw [HC1.out]
      go_wp2_with fail
      refine (unhide HNC 4 _ _ rfl (by omega)).mono ?_
      rintro e w' ⟨rfl, rfl⟩
      rw [HC4.out]
      go_wp2
      go_ret
      exact ⟨by simp, unhide HB1⟩

theorem exec_eval_txt {s : ByteArray} (h : M.isImage s = true) (inp : ByteArray) : execTxt (M.codeT s) inp = evalTxt s inp ∧ execNum (M.codeT s) inp = evalNum s inp := by
  unfold execTxt evalTxt execNum evalNum
  rw [M.code_isCode h, h, (M.code_head h).2.1, M.code_does h]
  exact ⟨rfl, rfl⟩
theorem compiles_walk (s inp : ByteArray) (w : World) (hs : s.size ≤ maxLen) (hi : inp.size ≤ maxLen) :
    Calls Try.prog 7 #[.string s, .string inp] w fun e w' => e = .returned (.bool true) ∧ Below w.heap.size w w' := by
  cases h : M.isImage s
  · have HI := hide h
    clear h
    go_enter Try.func7, Try.ntmps7
    go_wp2_with fail
    refine (slotsCompile_no s _ hs (unhide HI)).mono ?_
    rintro e w1 ⟨rfl, hb1⟩
    have HB1 := hide hb1
    have z1 := hb1.size
    clear hb1
    go_wp2_with fail
    refine (slotsCompile_no s _ hs (unhide HI)).mono ?_
    rintro e w2 ⟨rfl, hb2⟩
    have HB2 := hide ((unhide HB1).trans (hb2.mono z1))
    clear hb2
    go_wp2_with fail
    refine (num_any _ _).mono ?_
    rintro e w' ⟨rfl, rfl⟩
    go_wp2_with fail
    refine (refCompiled_no s _ hs (unhide HI)).mono ?_
    rintro e w' ⟨rfl, rfl⟩
    go_wp2_with fail
    refine (num_any _ _).mono ?_
    rintro e w' ⟨rfl, rfl⟩
    go_wp2
    go_ret
    exact ⟨rfl, unhide HB2⟩
  · have HI := hide h
    have hzc : (M.codeT s).size ≤ maxLen := by
      obtain ⟨h0, h1, h2, h3, h4, h5, h6⟩ := M.headOk_eq (M.image_headOk h)
      have := M.cnt_le s (M.bz s 2)
      have := M.codeT_size s
      unfold maxLen
      omega
    have HEX := hide (fun w => refExec_any (M.codeT s) inp w hzc hi)
    have HEV := hide (fun w => refEval_any s inp w hs hi)
    have HCM := hide (fun w => slotsCompile_ok s w hs h)
    have HCD := hide (fun w => refCompiled_ok s w h)
    rw [(exec_eval_txt h inp).1, (exec_eval_txt h inp).2] at HEX
    clear h
    generalize M.codeT s = T at *
    generalize evalTxt s inp = r at *
    generalize evalNum s inp = en at *
    go_enter Try.func7, Try.ntmps7
    go_wp2_with fail
    refine (unhide HCM _).mono ?_
    rintro e w1 ⟨rfl, hb1⟩
    have HB1 := hide hb1
    have z1 := hb1.size
    clear hb1
    go_wp2_with fail
    refine (unhide HCM _).mono ?_
    rintro e w2 ⟨rfl, hb2⟩
    have HB2 := hide ((unhide HB1).trans (hb2.mono z1))
    have z2 := hb2.size
    clear hb2
    go_wp2_with fail
    refine (num_any _ _).mono ?_
    rintro e w' ⟨rfl, rfl⟩
    go_wp2_with fail
    refine (unhide HCD _).mono ?_
    rintro e w3 ⟨rfl, hb3⟩
    have HB3 := hide ((unhide HB2).trans (hb3.mono (by omega)))
    have z3 := hb3.size
    clear hb3
    go_wp2_with fail
    refine (num_any _ _).mono ?_
    rintro e w' ⟨rfl, rfl⟩
    go_wp2_with fail
    refine (unhide HEX _).mono ?_
    rintro e w4 ⟨rfl, hb4⟩
    have HB4 := hide ((unhide HB3).trans (hb4.mono (by omega)))
    have z4 := hb4.size
    clear hb4
    go_wp2_with fail
    refine (unhide HEV _).mono ?_
    rintro e w5 ⟨rfl, hb5⟩
    have HB5 := hide ((unhide HB4).trans (hb5.mono (by omega)))
    clear hb5
    go_wp2
    go_ret
    exact ⟨by simp, unhide HB5⟩
end Go.Proofs.Ytjfmiomopfjecaa

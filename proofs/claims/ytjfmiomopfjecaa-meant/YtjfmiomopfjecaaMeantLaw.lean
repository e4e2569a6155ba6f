/- slotskeep.Meant. -/
import Derived.Test.YtjfmiomopfjecaaCompAll
import Derived.Test.YtjfmiomopfjecaaNodeAsk
import Derived.Test.YtjfmiomopfjecaaCodeExec
namespace Go.Proofs.Ytjfmiomopfjecaa
open Go.RowKit Go.Lib

theorem meant_walk (i o : Int) (t0 s0 inp : ByteArray) (w : World)
    (hi0 : -9223372036854775808 ≤ i) (hi1 : i ≤ 9223372036854775807) (ho0 : -9223372036854775808 ≤ o) (ho1 : o ≤ 9223372036854775807) (ht0 : t0.size ≤ maxLen) (hs0 : s0.size ≤ maxLen) (hin : inp.size ≤ maxLen) :
    Calls Try.prog 8 #[.agg #[.int .i64 i, .int .i64 o, .string t0, .string s0], .string inp] w fun e w' => e = .returned (.bool true) ∧ Below w.heap.size w w' := by
  go_enter Try.func8, Try.ntmps8
  go_wp2_with fail
  refine (kImage_any i o t0 s0 _ hi0 hi1 ho0 ho1 ht0 hs0).mono ?_
  rintro e w1 ⟨rfl, hb1⟩
  have HB1 : Hid (Below w.heap.size w w1) := ((Below.refl _ _).alloc (Nat.le_refl _) _).trans (hb1.mono (by simp))
  have z1 := hb1.size
  simp only [World.size_alloc] at z1
  clear hb1
  obtain ⟨hI, _, _, _, f4⟩ := imageL_facts i o t0 s0
  have bm := nodesN_le t0
  have bo := inN_bd o
  generalize M.bytesOf (imageL i o t0 s0) = I at *
  have hz1 : 4 ≤ I.size := by omega
  have hz2 : I.size ≤ 1000 := by omega
  have hzm : I.size ≤ maxLen := by unfold maxLen; omega
  have hc := M.code_isCode hI
  have hhd := M.code_head hI
  have hdo := M.code_does hI
  have hsz := M.codeT_size I
  have hcn := M.cnt_le I (M.bz I 2)
  obtain ⟨_, g1, g2, g3, g4, g5, g6⟩ := M.headOk_eq (M.image_headOk hI)
  have hq : (M.bytesOf (M.fillL inp (2 * M.bz I 1))).size = 2 * M.bz I 1 := by rw [M.bytesOf_size, M.fillL_length]
  have hzc : (M.codeT I).size ≤ maxLen := by unfold maxLen; omega
  have hzq : (M.bytesOf (M.fillL inp (2 * M.bz I 1))).size ≤ maxLen := by unfold maxLen; omega
  have HTX : Hid (execTxt (M.codeT I) (M.bytesOf (M.fillL inp (2 * M.bz I 1))) = M.evalOut I (M.bytesOf (M.fillL inp (2 * M.bz I 1)))) := by
    show execTxt _ _ = _
    unfold execTxt
    rw [hc, if_pos rfl, hhd.2.1, if_pos hq, hdo]
  have HNM : Hid (execNum (M.codeT I) (M.bytesOf (M.fillL inp (2 * M.bz I 1))) = 0) := by
    show execNum _ _ = _
    unfold execNum
    rw [hc, if_pos rfl, hhd.2.1, if_pos hq]
  clear f4 bm bo hc hhd hdo hsz hcn g1 g2 g3 g4 g5 g6
  go_wp2_with fail
  refine (kQuestion_any I inp _ (by omega) hz2 hin).mono ?_
  rintro e w' ⟨rfl, rfl⟩
  have HEX := hide (fun w => slotsExec_any (M.codeT I) (M.bytesOf (M.fillL inp (2 * M.bz I 1))) w hzc hzq)
  have HAN := hide (fun w => kAnswers_any I (M.bytesOf (M.fillL inp (2 * M.bz I 1))) w hI hq)
  have HCO := hide (fun w => slotsCompile_ok I w hzm hI)
  rw [HTX.out, HNM.out] at HEX
  clear HTX HNM hq hzc hzq hI
  generalize M.bytesOf (M.fillL inp (2 * M.bz I 1)) = q at *
  generalize M.evalOut I q = r at *
  generalize M.codeT I = C at *
  go_wp2_with fail
  refine (unhide HAN _).mono ?_
  rintro e w2 ⟨rfl, hb2⟩
  have HB2 := hide ((unhide HB1).trans (hb2.mono (by omega)))
  have z2 := hb2.size
  clear hb2
  go_wp2_with fail
  refine (unhide HCO _).mono ?_
  rintro e w3 ⟨rfl, hb3⟩
  have HB3 := hide ((unhide HB2).trans (hb3.mono (by omega)))
  have z3 := hb3.size
  clear hb3
  go_wp2_with fail
  refine (unhide HEX _).mono ?_
  rintro e w4 ⟨rfl, hb4⟩
  have HB4 := hide ((unhide HB3).trans (hb4.mono (by omega)))
  clear hb4
  go_wp2
  go_ret
  exact ⟨by simp, unhide HB4⟩
end Go.Proofs.Ytjfmiomopfjecaa

/- slotsref.Patch, and the law. -/
import Derived.Test.YtjfmiomopfjecaaPatchRefTwo
import Derived.Test.YtjfmiomopfjecaaPatchApply
namespace Go.Proofs.Ytjfmiomopfjecaa
open Go.RowKit Go.Lib

theorem text_ne {r : ByteArray} (h : 0 < r.size) : r.toList.isEmpty = false := by
  rw [ByteArray.toList_eq]
  have e : r.data.toList.length = r.size := by rw [Array.length_toList]; rfl
  cases hl : r.data.toList with
  | nil => rw [hl] at e; simp at e; omega
  | cons x l => rfl
theorem text_nil {r : ByteArray} (h : r.size = 0) : r = ⟨#[]⟩ := M.bz_ext (by rw [h]; rfl) (fun j hj => by omega)
set_option maxHeartbeats 400000 in
theorem refPatch_any (b p : ByteArray) (n : Int) (w : World) (hp : p.size ≤ 2000000) (hb : b.size ≤ 2000000) :
    Calls Try.prog 34 #[.string b, .string p, .int .i64 n] w fun e w' => e = .returned (.tuple #[.string (M.patchTxt b p n), .int .i64 (M.patchNum b p n)]) ∧ Below w.heap.size w w' := by
  have HS0 := hide (M.suf_zero p)
  go_enter Try.func34, Try.ntmps34
  go_wp2_with fail
  go_loopw [1, 8] (fun q v wr => ∃ (k : Nat) (o r : ByteArray), k ≤ p.size ∧ q = .string r ∧ v = .string o ∧ Hid (r = M.suf p k) ∧ Hid (M.goFrom b p k o = M.goFrom b p 0 ⟨#[]⟩) ∧ o.size ≤ 255 * k ∧ Below w.heap.size w wr) (fun q _ _ => match q with | .string r => r.size | _ => 0)
  case atStart => exact ⟨0, ⟨#[]⟩, p, by omega, rfl, rfl, HS0.out.symm, rfl, by show 0 ≤ _; omega, Below.refl _ _⟩
  case round =>
    obtain ⟨k, o, r, hk, rfl, rfl, hr, hgo, hz, hbel⟩ := hrel
    have hsz := hbel.size
    have HB := hide hbel
    have HRZ : Hid (r.size = p.size - k) := by rw [hr.out, M.suf_size]; rfl
    clear hbel
    by_cases hlt : k < p.size
    · have h0 : 0 < r.size := by rw [HRZ.out]; omega
      have hne := text_ne h0
      have hrz : r.size ≤ 2000000 := by rw [HRZ.out]; omega
      cases hok : M.opOk b p k
      · have HNO : Hid (M.opOk b r 0 = false) := by rw [hr.out, M.suf_ok b p k hlt]; exact hok
        have HEND := hide (txt_none (res_none (n := n) (hgo.out.symm.trans (M.goFrom_no hlt hok))))
        clear hok
        go_wp2_with fail
        refine (first_no b r _ hrz hb h0 (unhide HNO)).mono ?_
        rintro e w1 ⟨rfl, hb1⟩
        have HB1 := hide ((unhide HB).trans (hb1.mono hsz))
        unfold firstNo
        clear hb1
        go_wp2
        go_ret2
        exact ⟨ret_txt HEND.out, unhide HB1⟩
      · have HYES : Hid (M.opOk b r 0 = true) := by rw [hr.out, M.suf_ok b p k hlt]; exact hok
        have hle := M.opOk_le hok
        have hl2 := M.opLen_two p k
        have hc := M.opCount_le p k
        have HG : Hid (M.opGives b r 0 = M.opGives b p k) := by rw [hr.out, M.suf_gives]; rfl
        have HS : Hid (M.suf r (M.opLen r 0) = M.suf p (k + M.opLen p k)) := by rw [hr.out, M.suf_len, M.suf_suf]; rfl
        have HZ := hide (M.opGives_size b p k)
        have HNEW := hide ((M.goFrom_ok (o := o) hlt hok).symm.trans hgo.out)
        have HSZ := hide (M.suf_size p (k + M.opLen p k))
        clear hok
        go_wp2_with fail
        refine (first_yes b r _ hrz hb h0 (unhide HYES)).mono ?_
        rintro e w1 ⟨rfl, hb1⟩
        have HB1 := hide ((unhide HB).trans (hb1.mono hsz))
        clear hb1 HYES
        unfold firstYes
        rw [HG.out, HS.out]
        clear HG HS
        generalize M.opGives b p k = g at *
        generalize M.opCount p k = c at *
        generalize M.opLen p k = l at *
        have HT : Hid (M.suf p (k + l) = M.suf p (k + l)) := rfl
        have hgz : g.size ≤ 255 := by rw [HZ.out]; exact hc
        have HON : Hid ((o ++ g).size ≤ 255 * (k + l)) := by rw [ByteArray.size_append]; show _ ≤ _; omega
        generalize hS : M.suf p (k + l) = S at *
        have HS2 := hide hS
        clear hS
        go_wp2
        go_roundw
        case rel => exact ⟨k + l, o ++ g, S, by omega, rfl, rfl, HS2.out.symm, HNEW, unhide HON, unhide HB1⟩
        case measure => show S.size < r.size; rw [HSZ.out, HRZ.out]; omega
    · have hkn : k = p.size := by omega
      have e := text_nil (r := r) (by rw [HRZ.out]; omega)
      subst e
      have hG := hgo.out.symm.trans (M.goFrom_end (o := o) (by omega : p.size ≤ k))
      by_cases hn : (o.size : Int) = n
      · have HEND := hide (txt_some (res_some hG hn))
        have hne : ((o.size : Int) != n) = false := by rw [bne_eq_false_iff_eq]; exact hn
        clear hG hn
        go_wp2
        go_ret2
        exact ⟨ret_txt HEND.out, unhide HB⟩
      · have HEND := hide (txt_none (res_size hG hn))
        have hne : ((o.size : Int) != n) = true := by rw [bne_iff_ne]; exact hn
        clear hG hn
        go_wp2
        go_ret2
        exact ⟨ret_txt HEND.out, unhide HB⟩
theorem lawNum_any (n : Int) (w : World) : Calls Try.prog 17 #[.int .i64 n] w fun e w' => e = .returned (.int .i64 n) ∧ w = w' := by
  go_enter Try.func17, Try.ntmps17
  go_wp2
  go_ret
  exact ⟨rfl, rfl⟩
theorem patches_walk (b p : ByteArray) (n : Int) (w : World) (hp : p.size ≤ 2000000) (hb : b.size ≤ 2000000) :
    Calls Try.prog 9 #[.string b, .string p, .int .i64 n] w fun e w' => e = .returned (.bool true) ∧ Below w.heap.size w w' := by
  go_enter Try.func9, Try.ntmps9
  go_wp2_with fail
  refine (slotsPatch_any b p n _ hp hb).mono ?_
  rintro e w1 ⟨rfl, hb1⟩
  have hsz := hb1.size
  have HB1 := hide hb1
  clear hb1
  go_wp2_with fail
  refine (refPatch_any b p n _ hp hb).mono ?_
  rintro e w2 ⟨rfl, hb2⟩
  have HB2 := hide ((unhide HB1).trans (hb2.mono hsz))
  clear hb2
  generalize M.patchTxt b p n = t at *
  generalize M.patchNum b p n = c at *
  go_wp2_with fail
  refine (lawNum_any c _).mono ?_
  rintro e w' ⟨rfl, rfl⟩
  go_wp2
  go_ret
  exact ⟨by simp, unhide HB2⟩
end Go.Proofs.Ytjfmiomopfjecaa

/- A patch that is measured, and what comes out: delta.measure, delta.Apply, slots.Patch. -/
import Derived.Test.YtjfmiomopfjecaaPatchTake
namespace Go.Proofs.Ytjfmiomopfjecaa
open Go.RowKit Go.Lib

theorem stepFits_any (b p : ByteArray) (i : Nat) (w : World) (hb : b.size ≤ 2000000) (h3 : M.bz p i ≤ 3) :
    Calls Try.prog 109 #[stepV p i, .string b] w fun e w' => e = .returned (.bool (M.opFits b p i)) ∧ Below w.heap.size w w' := by
  have b1 := M.bz_lt p (i + 1)
  have b2 := M.bz_lt p (i + 2)
  unfold stepV
  by_cases h : M.bz p i = 0 ∨ M.bz p i = 3
  · have e1 : opAt p i = M.bz p (i + 1) := by rcases h with h | h <;> simp [opAt, h]
    have e2 : M.opCount p i = M.bz p (i + 2) := by rcases h with h | h <;> simp [M.opCount, h]
    have e3 : M.opFits b p i = decide (M.bz p (i + 1) + M.bz p (i + 2) ≤ b.size) := by rcases h with h | h <;> simp [M.opFits, h]
    rw [e1, e2, e3]
    exact fits_base _ _ _ _ b w h b1 b2 hb
  · have e3 : M.opFits b p i = true := by
      unfold M.opFits
      rw [decide_eq_false (fun x => h (.inl x)), decide_eq_false (fun x => h (.inr x))]; rfl
    rw [e3]
    exact fits_own _ _ _ _ b w (by omega)

def measV (b p : ByteArray) : Value := match M.goFrom b p 0 ⟨#[]⟩ with | some o => .tuple #[.int .i64 o.size, .bool true] | none => .tuple #[.int .i64 0, .bool false]
theorem measV_some {b p o : ByteArray} (h : M.goFrom b p 0 ⟨#[]⟩ = some o) : measV b p = .tuple #[.int .i64 o.size, .bool true] := by unfold measV; rw [h]
theorem measV_none {b p : ByteArray} (h : M.goFrom b p 0 ⟨#[]⟩ = none) : measV b p = .tuple #[.int .i64 0, .bool false] := by unfold measV; rw [h]
theorem ret_val {a b : Value} (h : a = b) : Ending.returned a = .returned b := by rw [h]
theorem opOk_of {b p : ByteArray} {i : Nat} (h1 : M.opThere p i = true) (h2 : M.opFits b p i = true) : M.opOk b p i = true := by unfold M.opOk; rw [h1, h2]; rfl
theorem there_what {p : ByteArray} {i : Nat} (h : M.opThere p i = true) : M.bz p i ≤ 3 ∧ i + M.opLen p i ≤ p.size := by
  unfold M.opThere at h
  simp only [Bool.and_eq_true, decide_eq_true_eq] at h
  exact h

set_option maxHeartbeats 800000 in
theorem measure_any (b p : ByteArray) (w : World) (hp : p.size ≤ 2000000) (hb : b.size ≤ 2000000) :
    Calls Try.prog 92 #[.string b, .string p] w fun e w' => e = .returned (measV b p) ∧ Below w.heap.size w w' := by
  go_enter Try.func92, Try.ntmps92
  go_wp2_with fail
  go_loopw [6, 7] (fun s i wr => ∃ (k z : Nat) (o : ByteArray), k ≤ p.size ∧ i = .int .i64 k ∧ s = .int .i64 z ∧ Hid (o.size = z) ∧ Hid (M.goFrom b p k o = M.goFrom b p 0 ⟨#[]⟩) ∧ z ≤ 255 * k ∧ Below w.heap.size w wr) (fun _ i _ => p.size - (intOf i).toNat)
  case atStart => exact ⟨0, 0, ⟨#[]⟩, by omega, rfl, rfl, rfl, rfl, by omega, Below.refl _ _⟩
  case round =>
    obtain ⟨k, z, o, hk, rfl, rfl, hz, hgo, hzk, hbel⟩ := hrel
    have hsz := hbel.size
    have HB := hide hbel
    clear hbel
    by_cases hlt : k < p.size
    · go_wp2_with fail
      refine (read_any p k _ hp hlt).mono ?_
      rintro e w1 ⟨hy, hno, hb1⟩
      have HB1 := hide ((unhide HB).trans (hb1.mono hsz))
      have hsz1 := hb1.size
      cases hth : M.opThere p k
      · obtain rfl := hno hth
        have HEND := hide (measV_none (hgo.out.symm.trans (M.goFrom_no hlt (by unfold M.opOk; rw [hth]; rfl))))
        clear hth hy hno hb1
        unfold stepNo
        go_wp2
        go_ret2
        exact ⟨ret_val HEND.out.symm, (unhide HB1).alloc (by omega) _⟩
      · obtain rfl := hy hth
        obtain ⟨hwh, hle⟩ := there_what hth
        have HTH := hide hth
        clear hth hy hno hb1
        have hl2 := M.opLen_two p k
        have hl3 := M.opLen_le p k
        have hc := M.opCount_le p k
        have HC := hide (M.opGives_size b p k)
        have HSTEP := hide (fun h => M.goFrom_ok (b := b) (o := o) hlt (opOk_of (unhide HTH) h))
        have HSTOP := hide (fun (h : M.opFits b p k = false) => measV_none (hgo.out.symm.trans (M.goFrom_no hlt (by unfold M.opOk; rw [h, Bool.and_false]))))
        have HFIT := hide (fun w => stepFits_any b p k w hb hwh)
        unfold stepV at HFIT ⊢
        generalize M.opLen p k = l at *
        generalize M.opCount p k = c at *
        generalize opAt p k = a at *
        generalize opOwn p k = t at *
        generalize M.bz p k = x at *
        go_wp2_with fail
        refine (unhide HFIT _).mono ?_
        rintro e w2 ⟨rfl, hb2⟩
        have hc2 : w2.cell? ⟨w1.heap.size, 2, none⟩ = some (.int .i64 c) := (hb2.cell (p := ⟨w1.heap.size, 2, none⟩) (by simp)).trans (by simp)
        have hsz2 := hb2.size
        simp only [World.size_alloc] at hsz2
        have HB2 : Hid (Below w.heap.size w w2) := ((unhide HB1).alloc (by omega) _).trans (hb2.mono (by simp; omega))
        clear hb2 HFIT
        cases hf : M.opFits b p k
        · have HEND := hide (HSTOP.out hf)
          clear hf
          go_wp2
          go_ret2
          exact ⟨ret_val HEND.out.symm, unhide HB2⟩
        · have HNEW := hide ((HSTEP.out hf).symm.trans hgo.out)
          have HZN : Hid ((o ++ M.opGives b p k).size = z + c) := by rw [ByteArray.size_append, hz.out, HC.out]; rfl
          clear hf
          go_wp2
          go_roundw
          case rel => exact ⟨k + l, z + c, o ++ M.opGives b p k, by omega, rfl, by go_num, HZN, HNEW, by omega, unhide HB2⟩
          case measure => simp [intOf]; omega
    · have hkn : k = p.size := by omega
      have HEND := hide (measV_some (hgo.out.symm.trans (M.goFrom_end (by omega))))
      go_wp2
      go_ret2
      exact ⟨ret_val (by rw [HEND.out, hz.out]; rfl), unhide HB⟩

theorem res_none {b p : ByteArray} {n : Int} (h : M.goFrom b p 0 ⟨#[]⟩ = none) : M.patchRes b p n = none := by unfold M.patchRes; rw [h]; rfl
theorem res_size {b p o : ByteArray} {n : Int} (h : M.goFrom b p 0 ⟨#[]⟩ = some o) (hn : ¬ (o.size : Int) = n) : M.patchRes b p n = none := by
  unfold M.patchRes; rw [h]
  simp [Option.filter, hn]
theorem res_some {b p o : ByteArray} {n : Int} (h : M.goFrom b p 0 ⟨#[]⟩ = some o) (hn : (o.size : Int) = n) : M.patchRes b p n = some o := by
  unfold M.patchRes; rw [h]
  simp [Option.filter, hn]
def applyV (b p : ByteArray) (n : Int) : Value := match M.patchRes b p n with | some o => .tuple #[.string o, .bool true] | none => .tuple #[.string ⟨#[]⟩, .bool false]
theorem applyV_some {b p o : ByteArray} {n : Int} (h : M.patchRes b p n = some o) : applyV b p n = .tuple #[.string o, .bool true] := by unfold applyV; rw [h]
theorem applyV_none {b p : ByteArray} {n : Int} (h : M.patchRes b p n = none) : applyV b p n = .tuple #[.string ⟨#[]⟩, .bool false] := by unfold applyV; rw [h]

set_option maxHeartbeats 800000 in
theorem apply_any (b p : ByteArray) (n : Int) (w : World) (hp : p.size ≤ 2000000) (hb : b.size ≤ 2000000) :
    Calls Try.prog 60 #[.string b, .string p, .int .i64 n] w fun e w' => e = .returned (applyV b p n) ∧ Below w.heap.size w w' := by
  go_enter Try.func60, Try.ntmps60
  go_wp2_with fail
  refine (measure_any b p _ hp hb).mono ?_
  rintro e w0 ⟨rfl, hb0⟩
  have HB0 := hide hb0
  have hsz0 := hb0.size
  clear hb0
  cases hg : M.goFrom b p 0 ⟨#[]⟩ with
  | none =>
    have HEND := hide (applyV_none (res_none (n := n) hg))
    rw [measV_none hg]
    clear hg
    go_wp2
    go_ret2
    exact ⟨ret_val HEND.out.symm, unhide HB0⟩
  | some R =>
    rw [measV_some hg]
    by_cases hn : (R.size : Int) = n
    · have HEND := hide (applyV_some (res_some hg hn))
      have hne : ((R.size : Int) != n) = false := by rw [bne_eq_false_iff_eq]; exact hn
      have HG := hide hg
      clear hg hn
      go_wp2_with fail
      go_loopw [10, 11] (fun v i wr => ∃ (k : Nat) (o : ByteArray), k ≤ p.size ∧ i = .int .i64 k ∧ Hid (M.goFrom b p k o = some R) ∧ o.size ≤ 255 * k ∧ wr.ownsRow w.heap.size 5 1 v o.size (strCells o) ∧ Below w.heap.size w wr) (fun _ i _ => p.size - (intOf i).toNat)
      case atStart => exact ⟨0, ⟨#[]⟩, by omega, rfl, HG, by show 0 ≤ _; omega, World.ownsRow_nil _ _ _ _, unhide HB0⟩
      case round =>
        clear HB0 HG hsz0
        obtain ⟨k, o, hk, rfl, hgo, hzk, hown, hbel⟩ := hrel
        have hsz := hbel.size
        have HB := hide hbel
        have HO := hide hown
        clear hbel
        by_cases hlt : k < p.size
        · clear hown
          cases hok : M.opOk b p k
          · have := M.goFrom_no (o := o) hlt hok
            rw [hgo.out] at this
            cases this
          · have hth : M.opThere p k = true := by
              unfold M.opOk at hok
              simp only [Bool.and_eq_true] at hok
              exact hok.1
            obtain ⟨hwh, hle⟩ := there_what hth
            go_wp2_with fail
            refine (read_any p k _ hp hlt).mono ?_
            rintro e w1 ⟨hy, hno, hb1⟩
            have HB1 := hide ((unhide HB).trans (hb1.mono hsz))
            have hsz1 := hb1.size
            have HO1 := hide (ownsRow_below (unhide HO) hb1)
            obtain rfl := hy hth
            clear hth hy hno hb1
            have hl2 := M.opLen_two p k
            have hl3 := M.opLen_le p k
            have hc := M.opCount_le p k
            have HC := hide (M.opGives_size b p k)
            have HNEW := hide ((M.goFrom_ok (o := o) hlt hok).symm.trans hgo.out)
            have HGIV := hide (fun w => gives_any b p k w hb hok)
            clear hok
            unfold stepV at HGIV ⊢
            generalize M.opLen p k = l at *
            generalize M.opCount p k = c at *
            generalize opAt p k = a at *
            generalize opOwn p k = t at *
            generalize M.bz p k = x at *
            go_wp2_with fail
            refine (unhide HGIV _).mono ?_
            rintro e w2 ⟨rfl, hb2⟩
            have hsz2 := hb2.size
            simp only [World.size_alloc] at hsz2
            have HB2 : Hid (Below w.heap.size w w2) := ((unhide HB1).alloc (by omega) _).trans (hb2.mono (by simp; omega))
            have HO2 := hide (ownsRow_below ((unhide HO1).alloc _) hb2)
            clear hb2 HGIV
            generalize M.opGives b p k = g at *
            have HZN : Hid ((o ++ g).size ≤ 255 * (k + l)) := by rw [ByteArray.size_append, HC.out]; show _ ≤ _; omega
            go_wp2_with (at_builtin; (refine append_text _ rfl (.tmp 41) (.tmp 44) rfl w.heap.size u10 o g rfl rfl (unhide HO2) (by rw [HC.out]; omega) (by omega) ?_); intro v' w3 hown3 hbel3 hsz3)
            have HR := hide hown3
            have HB3 := hide (hbel3 _ (unhide HB2))
            clear hown3 hbel3
            go_wp2
            go_roundw
            case rel => exact ⟨k + l, o ++ g, by omega, rfl, HNEW, unhide HZN, unhide HR, unhide HB3⟩
            case measure => simp [intOf]; omega
        · have hr := row_text _ _ _ _ hown
          have HE : Hid (o = R) := by
            have := hgo.out
            rw [M.goFrom_end (by omega)] at this
            exact Option.some.inj this
          clear hown
          go_wp2
          go_ret2
          exact ⟨ret_val (by rw [HEND.out, ← HE.out]; rfl), unhide HB⟩
    · have HEND := hide (applyV_none (res_size hg hn))
      have hne : ((R.size : Int) != n) = true := by rw [bne_iff_ne]; exact hn
      clear hg hn
      go_wp2
      go_ret2
      exact ⟨ret_val HEND.out.symm, unhide HB0⟩

theorem txt_some {b p o : ByteArray} {n : Int} (h : M.patchRes b p n = some o) : M.patchTxt b p n = o ∧ M.patchNum b p n = 0 := by
  unfold M.patchTxt M.patchNum
  rw [h]
  exact ⟨rfl, rfl⟩
theorem txt_none {b p : ByteArray} {n : Int} (h : M.patchRes b p n = none) : M.patchTxt b p n = ⟨#[]⟩ ∧ M.patchNum b p n = 4 := by
  unfold M.patchTxt M.patchNum
  rw [h]
  exact ⟨rfl, rfl⟩
theorem ret_txt {a b : ByteArray} {c d : Int} (h : a = b ∧ c = d) : Ending.returned (.tuple #[.string b, .int .i64 d]) = .returned (.tuple #[.string a, .int .i64 c]) := by rw [h.1, h.2]
theorem slotsPatch_any (b p : ByteArray) (n : Int) (w : World) (hp : p.size ≤ 2000000) (hb : b.size ≤ 2000000) :
    Calls Try.prog 33 #[.string b, .string p, .int .i64 n] w fun e w' => e = .returned (.tuple #[.string (M.patchTxt b p n), .int .i64 (M.patchNum b p n)]) ∧ Below w.heap.size w w' := by
  go_enter Try.func33, Try.ntmps33
  go_wp2_with fail
  refine (apply_any b p n _ hp hb).mono ?_
  rintro e w0 ⟨rfl, hb0⟩
  have HB0 := hide hb0
  clear hb0
  cases hg : M.patchRes b p n with
  | none =>
    rw [applyV_none hg]
    have HE := hide (txt_none hg)
    clear hg
    go_wp2
    go_ret2
    exact ⟨ret_txt HE.out, unhide HB0⟩
  | some R =>
    rw [applyV_some hg]
    have HE := hide (txt_some hg)
    clear hg
    go_wp2
    go_ret2
    exact ⟨ret_txt HE.out, unhide HB0⟩
end Go.Proofs.Ytjfmiomopfjecaa

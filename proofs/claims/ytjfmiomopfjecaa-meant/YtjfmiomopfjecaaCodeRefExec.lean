/- The document's Exec. -/
import Derived.Test.YtjfmiomopfjecaaCodeRef
import Derived.Test.YtjfmiomopfjecaaNetOwn
namespace Go.Proofs.Ytjfmiomopfjecaa
open Go.RowKit

theorem intCells_set (l : List Int) (j : Nat) (x : Int) : (intCells l).set j (.int .i64 x) = intCells (l.set j x) := by
  simp [intCells]
theorem stored_int {wr : World} {base g L j : Nat} {f f' : Nat → Int} {x : Int} (hown : wr.ownsRow base 3 1 (.slice (some ⟨g, 0, none⟩) L L) L (intCells (M.listOf L f)))
    (h : ∀ i, i < L → (if i = j then x else f i) = f' i) :
    (wr.setCell ⟨g, j, none⟩ (.int .i64 x)).ownsRow base 3 1 (.slice (some ⟨g, 0, none⟩) L L) L (intCells (M.listOf L f')) := by
  have e := (hown.stored j (.int .i64 x)).1
  rw [intCells_set, M.listOf_set, M.listOf_congr h] at e
  exact e
theorem made_ints (n : Nat) : (madeCells (Value.int .i64 0).cells (n * 1)).toList = intCells (M.listOf n (fun _ => 0)) := by
  show (madeCells #[Value.int .i64 0] (n * 1)).toList = _
  rw [Nat.mul_one, toList_madeCells_one]
  apply List.ext_getElem?
  intro k
  by_cases hk : k < n <;> simp [intCells, M.listOf, hk]

theorem refExec_no (s inp : ByteArray) (w : World) (hs : s.size ≤ maxLen) (h : M.isCode s = false) :
    Calls Try.prog 20 #[.string s, .string inp] w fun e w' => e = .returned (.tuple #[.string ⟨#[]⟩, .int .i64 3]) ∧ Below w.heap.size w w' := by
  go_enter Try.func20, Try.ntmps20
  go_wp2_with fail
  refine (refCode_any s _ hs).mono ?_
  rintro e w' ⟨rfl, rfl⟩
  rw [h]
  clear h
  go_wp2
  go_ret2
  exact ⟨rfl, Below.refl _ _⟩
theorem code_head {s : ByteArray} (h : M.isCode s = true) : M.cHead s = true := by
  unfold M.isCode at h
  cases e : M.cHead s
  · rw [e] at h; exact h
  · rfl
theorem code_step {s : ByteArray} (h : M.isCode s = true) {k : Nat} (hk : k < M.bz s 4) : M.stepOk s k = true := by
  unfold M.isCode at h
  rw [Bool.and_eq_true, Bool.and_eq_true] at h
  exact M.all_range_at (p := fun i => M.stepOk s i) h.2.2 hk
theorem code_to {s : ByteArray} (h : M.isCode s = true) {k : Nat} (hk : k < M.bz s 4) : M.bz s (M.stepAt s k + 1) < M.bz s 2 := by
  have := code_step h hk
  unfold M.stepOk at this
  rw [Bool.and_eq_true] at this
  exact of_decide_eq_true this.2
theorem code_op {s : ByteArray} (h : M.isCode s = true) {k : Nat} (hk : k < M.bz s 4) : M.okOp (M.bz s (M.stepAt s k)) (M.bz s (M.stepAt s k + 2)) (M.bz s (M.stepAt s k + 3)) (M.bz s 2) = true := by
  have := code_step h hk
  unfold M.stepOk at this
  rw [Bool.and_eq_true] at this
  exact this.1
theorem refExec_input (s inp : ByteArray) (w : World) (hs : s.size ≤ maxLen) (hi : inp.size ≤ maxLen) (h : M.isCode s = true) (hne : inp.size ≠ 2 * M.bz s 1) :
    Calls Try.prog 20 #[.string s, .string inp] w fun e w' => e = .returned (.tuple #[.string ⟨#[]⟩, .int .i64 2]) ∧ Below w.heap.size w w' := by
  obtain ⟨h0, h1, h2, h3, h4, h5, h6, h7, h8⟩ := M.cHead_eq (code_head h)
  have hs3 : 5 ≤ s.size := by omega
  have hib : inp.size ≤ 9223372036854775807 := by unfold maxLen at hi; omega
  clear h0 h8
  go_enter Try.func20, Try.ntmps20
  go_wp2_with fail
  refine (refCode_any s _ hs).mono ?_
  rintro e w' ⟨rfl, rfl⟩
  rw [h]
  clear h
  go_wp2_with fail
  refine (refNumber_in s 1 _ hs (by omega) (by omega)).mono ?_
  rintro e w' ⟨rfl, rfl⟩
  rw [show (1 : Int).toNat = 1 from rfl]
  go_wp2_with fail
  refine (refNumber_in s 3 _ hs (by omega) (by omega)).mono ?_
  rintro e w' ⟨rfl, rfl⟩
  rw [show (3 : Int).toNat = 3 from rfl]
  generalize M.bz s 1 = n at *
  generalize M.bz s 3 = o at *
  have hb : ((inp.size : Int) != 2 * (n : Int)) = true := by rw [bne_iff_ne]; omega
  clear hne
  go_wp2
  go_ret2
  exact ⟨rfl, Below.refl _ _⟩

set_option maxHeartbeats 1600000 in
theorem refExec_yes (s inp : ByteArray) (w : World) (hs : s.size ≤ maxLen) (h : M.isCode s = true) (heq : inp.size = 2 * M.bz s 1) :
    Calls Try.prog 20 #[.string s, .string inp] w fun e w' => e = .returned (.tuple #[.string (M.execOut s inp), .int .i64 0]) ∧ Below w.heap.size w w' := by
  obtain ⟨h0, h1, h2, h3, h4, h5, h6, h7, h8⟩ := M.cHead_eq (code_head h)
  have HTO : Hid (∀ k, k < M.bz s 4 → M.bz s (5 + M.bz s 3 + 4 * k + 1) < 32) := fun k hk => Nat.lt_of_lt_of_le (code_to h hk) h4
  have HZ : Hid (∀ k, k ≤ M.bz s 4 → ∀ i, 32 ≤ i → M.cellsAt s inp k i = 0) := fun k hk i hi => M.cellsAt_zero (L := 32) (by omega) (fun k hk => Nat.lt_of_lt_of_le (code_to h hk) h4) k hk i hi
  have HC0 : Hid (∀ i, (if i < M.bz s 1 then M.wordVal ((M.bz inp (2 * i) : Int) * 256 + M.bz inp (2 * i + 1)) else 0) = M.cellsAt s inp 0 i) := fun i => rfl
  have HCS : Hid (∀ k i, (if i = M.bz s (5 + M.bz s 3 + 4 * k + 1) then M.nodeDo (M.bz s (5 + M.bz s 3 + 4 * k)) (M.cellsAt s inp k (M.bz s (5 + M.bz s 3 + 4 * k + 2))) (M.cellsAt s inp k (M.bz s (5 + M.bz s 3 + 4 * k + 3))) (M.bz s (5 + M.bz s 3 + 4 * k + 2)) (M.bz s (5 + M.bz s 3 + 4 * k + 3)) else M.cellsAt s inp k i) = M.cellsAt s inp (k + 1) i) := fun k i => rfl
  have HFIN : Hid (M.outOf (M.cellsAt s inp (M.bz s 4)) s (M.bz s 3) = M.execOut s inp) := rfl
  have hlo : 5 + M.bz s 3 + 4 * M.bz s 4 ≤ s.size := by omega
  have hhi : s.size ≤ 5 + M.bz s 3 + 4 * M.bz s 4 := by omega
  have hil : inp.size ≤ 2 * M.bz s 1 := by omega
  have hih : 2 * M.bz s 1 ≤ inp.size := by omega
  have hi8 : inp.size ≤ maxLen := by unfold maxLen; omega
  obtain ⟨i0, hi, hz0, hz1, hz2⟩ := info_parts infoI
  clear h0 h8 heq
  go_enter Try.func20, Try.ntmps20
  go_wp2_with fail
  refine (refCode_any s _ hs).mono ?_
  rintro e w' ⟨rfl, rfl⟩
  rw [h]
  clear h
  go_wp2_with fail
  refine (refNumber_in s 1 _ hs (by omega) (by omega)).mono ?_
  rintro e w' ⟨rfl, rfl⟩
  rw [show (1 : Int).toNat = 1 from rfl]
  go_wp2_with fail
  refine (refNumber_in s 3 _ hs (by omega) (by omega)).mono ?_
  rintro e w' ⟨rfl, rfl⟩
  rw [show (3 : Int).toNat = 3 from rfl]
  generalize M.bz s 1 = n at *
  generalize M.bz s 2 = c at *
  generalize M.bz s 3 = o at *
  generalize M.bz s 4 = m at *
  have hb : ((inp.size : Int) != 2 * (n : Int)) = false := by rw [bne_eq_false_iff_eq]; omega
  go_wp2_with (at_make; refine wpList_make_full _ rfl _ _ 52 rfl w.heap.size 3 i0 (.int .i64 0) 1 Try.underlying52 hi hz0 hz1 .i64 .i64 _ _ 32 rfl rfl (by omega) (by omega) (by rw [hz2]; omega) (by unfold maxLen; omega) (Nat.le_refl _) ?_; intro w1 hown1 hgrow1)
  rw [made_ints] at hown1
  have hbel1 : Below w.heap.size w w1 := (Below.refl _ _).grown hgrow1 (Nat.le_refl _) (by intro k hk; cases hk)
  clear hgrow1 hi hz0 hz1 hz2 hb
  go_loopw [10] (fun i wr => ∃ k : Nat, k ≤ n ∧ i = .int .i64 k ∧ wr.ownsRow w.heap.size 3 1 (.slice (some ⟨w.heap.size, 0, none⟩) 32 32) 32 (intCells (M.listOf 32 (fun i => if i < k then M.wordVal ((M.bz inp (2 * i) : Int) * 256 + M.bz inp (2 * i + 1)) else 0))) ∧ Below w.heap.size w wr) (fun i _ => n - (intOf i).toNat)
  case atStart => exact ⟨0, by omega, rfl, by simpa using hown1, hbel1⟩
  case round =>
    clear hown1 hbel1
    obtain ⟨k, hk, rfl, hown, hbel⟩ := hrel
    by_cases hlt : k < n
    · have b1 := M.bz_lt inp (2 * k)
      have b2 := M.bz_lt inp (2 * k + 1)
      have hfr := fun j => hown.frozenAt j
      have hcl := hown.cellAt k (by omega)
      rw [intCells_at (by rw [M.listOf_length]; omega)] at hcl
      have R := stored_int (j := k) (x := M.wordVal ((M.bz inp (2 * k) : Int) * 256 + M.bz inp (2 * k + 1))) (f' := fun i => if i < k + 1 then M.wordVal ((M.bz inp (2 * i) : Int) * 256 + M.bz inp (2 * i + 1)) else 0) hown (by
        intro i _
        by_cases e : i = k
        · subst e; simp
        · have : (i < k + 1) = (i < k) := by apply propext; omega
          simp [e, this])
      have HR := hide R
      have HB := hide hbel
      clear hown hbel R
      go_wp2_with fail
      refine (refWord_any inp _ _ hi8 (by omega) (by omega)).mono ?_
      rintro e w' ⟨rfl, rfl⟩
      rw [show (2 * (k : Int)).toNat = 2 * k from by omega]
      go_wp2_with fail
      refine (refSigned_any _ _ (by omega) (by omega)).mono ?_
      rintro e w' ⟨rfl, rfl⟩
      generalize M.wordVal ((M.bz inp (2 * k) : Int) * 256 + M.bz inp (2 * k + 1)) = x at *
      go_wp2
      go_roundw
      case rel => exact ⟨k + 1, by omega, by go_num, unhide HR, (unhide HB).setCell (Nat.le_refl _) _⟩
      case measure => simp [intOf]; omega
    · have hkn : k = n := by omega
      subst hkn
      rw [M.listOf_congr (fun i _ => HC0.out i)] at hown
      have HO := hide hown
      have HB := hide hbel
      clear hown hbel hlt
      go_wp2_with fail
      go_loopw [11] (fun i wr => ∃ j : Nat, j ≤ m ∧ i = .int .i64 ((5 : Int) + (o : Int) + 4 * (j : Int)) ∧ wr.ownsRow w.heap.size 3 1 (.slice (some ⟨w.heap.size, 0, none⟩) 32 32) 32 (intCells (M.listOf 32 (M.cellsAt s inp j))) ∧ Below w.heap.size w wr) (fun i _ => s.size - (intOf i).toNat)
      case atStart => exact ⟨0, by omega, by go_num, unhide HO, unhide HB⟩
      case round =>
        clear HO HB
        obtain ⟨j, hj, rfl, hown, hbel⟩ := hrel
        have hrow : HoldsRow wr (.slice (some ⟨w.heap.size, 0, none⟩) 32 32) (M.listOf 32 (M.cellsAt s inp j)).length (intCells (M.listOf 32 (M.cellsAt s inp j))) := by rw [M.listOf_length]; exact holdsRow_own hown
        have HRow := hide hrow
        have HGet := hide (M.listOf_getD 32 (M.cellsAt s inp j) (fun i hi => HZ.out j hj i hi))
        have HO := hide hown
        have HB := hide hbel
        have hfr := fun i => hown.frozenAt i
        have hcl := fun i (hi : i < 32) => (hown.cellAt i (by omega)).trans (intCells_at (l := M.listOf 32 (M.cellsAt s inp j)) (by rw [M.listOf_length]; exact hi))
        have HCL := hide hcl
        clear hown hbel hrow hcl
        by_cases hlt : j < m
        · have b1 := M.bz_lt s (5 + o + 4 * j)
          have b2 := M.bz_lt s (5 + o + 4 * j + 2)
          have b3 := M.bz_lt s (5 + o + 4 * j + 3)
          have hto := HTO.out j hlt
          have HS := hide (HCS.out j)
          have hx := hide (M.cellsAt_val s inp j (M.bz s (5 + o + 4 * j + 2)))
          have hy := hide (M.cellsAt_val s inp j (M.bz s (5 + o + 4 * j + 3)))
          go_wp2_with fail
          refine (refNumber_in s _ _ hs (by omega) (by omega)).mono ?_
          rintro e w' ⟨rfl, rfl⟩
          rw [show (5 + (o : Int) + 4 * (j : Int) + 2).toNat = 5 + o + 4 * j + 2 from by omega]
          generalize M.bz s (5 + o + 4 * j + 2) = a at *
          go_wp2_with fail
          refine (refNumber_in s _ _ hs (by omega) (by omega)).mono ?_
          rintro e w' ⟨rfl, rfl⟩
          rw [show (5 + (o : Int) + 4 * (j : Int) + 3).toNat = 5 + o + 4 * j + 3 from by omega]
          generalize M.bz s (5 + o + 4 * j + 3) = b at *
          go_wp2_with fail
          refine (refNumber_in s _ _ hs (by omega) (by omega)).mono ?_
          rintro e w' ⟨rfl, rfl⟩
          rw [show (5 + (o : Int) + 4 * (j : Int)).toNat = 5 + o + 4 * j from by omega]
          generalize M.bz s (5 + o + 4 * j) = op at *
          go_wp2_with fail
          refine (refOf_any _ (M.listOf 32 (M.cellsAt s inp j)) a _ (unhide HRow) (by omega)).mono ?_
          rintro e w' ⟨rfl, rfl⟩
          rw [HGet.out]
          generalize M.cellsAt s inp j a = x at *
          go_wp2_with fail
          refine (refOf_any _ (M.listOf 32 (M.cellsAt s inp j)) b _ (unhide HRow) (by omega)).mono ?_
          rintro e w' ⟨rfl, rfl⟩
          rw [HGet.out]
          generalize M.cellsAt s inp j b = y at *
          go_wp2_with fail
          refine (refDone_any op x y a b _ (unhide hx) (unhide hy) (by omega) b2 b3).mono ?_
          rintro e w' ⟨rfl, rfl⟩
          generalize M.nodeDo op x y a b = z at *
          go_wp2_with fail
          refine (refNumber_in s _ _ hs (by omega) (by omega)).mono ?_
          rintro e w' ⟨rfl, rfl⟩
          rw [show (5 + (o : Int) + 4 * (j : Int) + 1).toNat = 5 + o + 4 * j + 1 from by omega]
          generalize M.bz s (5 + o + 4 * j + 1) = t at *
          have hct := unhide HCL t hto
          have HR := hide (stored_int (j := t) (x := z) (f' := M.cellsAt s inp (j + 1)) (unhide HO) (fun i _ => HS.out i))
          go_wp2
          go_roundw
          case rel => exact ⟨j + 1, by omega, by go_num, unhide HR, (unhide HB).setCell (Nat.le_refl _) _⟩
          case measure => simp [intOf]; omega
        · have hjm : j = m := by omega
          subst hjm
          clear hlt hfr
          have d49 : decide ((5 : Int) + (o : Int) + 4 * (j : Int) < (s.size : Int)) = false := decide_eq_false (by omega)
          go_wp2_with fail
          clear d49
          go_loopw [15, 16] (fun v i wr => ∃ (q : Nat) (t : ByteArray), q ≤ o ∧ i = .int .i64 (5 + q : Nat) ∧ v = .string t ∧ Hid (t = M.outOf (M.cellsAt s inp j) s q) ∧ t.size ≤ 8 ∧ HoldsRow wr (.slice (some ⟨w.heap.size, 0, none⟩) 32 32) (M.listOf 32 (M.cellsAt s inp j)).length (intCells (M.listOf 32 (M.cellsAt s inp j))) ∧ Below w.heap.size w wr) (fun _ i _ => 5 + o - (intOf i).toNat)
          case atStart => exact ⟨0, _, by omega, by go_num, rfl, rfl, by decide, unhide HRow, unhide HB⟩
          case round =>
            clear HO HB HRow HCL
            obtain ⟨q, t, hq, rfl, rfl, ht, ht8, hrow, hbel⟩ := hrel
            have HRow := hide hrow
            have HB := hide hbel
            have hsz := hbel.size
            clear hrow hbel
            by_cases hlt : q < o
            · have b1 := M.bz_lt s (5 + q)
              have HS : Hid (M.outOf (M.cellsAt s inp j) s (q + 1) = M.outOf (M.cellsAt s inp j) s q ++ M.wordText (M.cellsAt s inp j (M.bz s (5 + q)))) := rfl
              have HZ2 := hide (M.outOf_size (M.cellsAt s inp j) s (q + 1))
              have hx := hide (M.cellsAt_val s inp j (M.bz s (5 + q)))
              go_wp2_with fail
              refine (refNumber_in s _ _ hs (by omega) (by omega)).mono ?_
              rintro e w' ⟨rfl, rfl⟩
              rw [show (5 + (q : Int)).toNat = 5 + q from by omega]
              generalize M.bz s (5 + q) = a at *
              go_wp2_with fail
              refine (refOf_any _ (M.listOf 32 (M.cellsAt s inp j)) a _ (unhide HRow) (by omega)).mono ?_
              rintro e w' ⟨rfl, rfl⟩
              rw [HGet.out]
              generalize M.cellsAt s inp j a = x at *
              go_wp2_with fail
              refine (refBytes_any x _ (unhide hx)).mono ?_
              rintro e w1 ⟨rfl, hb1⟩
              have htx := M.wordText_size x
              generalize M.wordText x = tx at *
              have ht2 : tx.size ≤ 2 := by omega
              clear htx
              have HB1 := hide ((unhide HB).trans (hb1.mono hsz))
              have HR1 := hide ((unhide HRow).mono hb1)
              clear hb1
              have HEQ : Hid (t ++ tx = M.outOf (M.cellsAt s inp j) s (q + 1)) := by rw [HS.out, ← ht.out]; rfl
              have HSZ : Hid ((t ++ tx).size ≤ 8) := by rw [HEQ.out, HZ2.out]; show _ ≤ _; omega
              go_wp2
              go_roundw
              case rel => exact ⟨q + 1, t ++ tx, by omega, by go_num, rfl, HEQ, unhide HSZ, unhide HR1, unhide HB1⟩
              case measure => simp [intOf]; omega
            · have hqo : q = o := by omega
              subst hqo
              have HEND : Hid (t = M.execOut s inp) := by rw [ht.out, ← HFIN.out]; rfl
              go_wp2
              go_ret2
              exact ⟨by rw [HEND.out]; rfl, unhide HB⟩
end Go.Proofs.Ytjfmiomopfjecaa

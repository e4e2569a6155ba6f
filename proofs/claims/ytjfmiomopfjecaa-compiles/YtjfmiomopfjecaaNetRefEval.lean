/- The document's Check and Eval. -/
import Derived.Test.YtjfmiomopfjecaaNetRef
import Derived.Test.YtjfmiomopfjecaaNetOwn
namespace Go.Proofs.Ytjfmiomopfjecaa
open Go.RowKit

def checkNum (s : ByteArray) : Int := if M.isImage s then 0 else 1
theorem refCheck_any (s : ByteArray) (w : World) (hs : s.size ≤ maxLen) :
    Calls Try.prog 18 #[.string s] w fun e w' => e = .returned (.int .i64 (checkNum s)) ∧ w = w' := by
  have HC := hide (show checkNum s = if M.isImage s then 0 else 1 from rfl)
  go_enter Try.func18, Try.ntmps18
  go_wp2_with fail
  refine (refImage_any s _ hs).mono ?_
  rintro e w' ⟨rfl, rfl⟩
  cases h : M.isImage s
  · have HE : Hid (checkNum s = 1) := by rw [HC.out, h]; rfl
    clear h
    go_wp2
    go_ret
    exact ⟨ret_int HE.out.symm, rfl⟩
  · have HE : Hid (checkNum s = 0) := by rw [HC.out, h]; rfl
    clear h
    go_wp2
    go_ret
    exact ⟨ret_int HE.out.symm, rfl⟩
theorem refEval_no (s inp : ByteArray) (w : World) (hs : s.size ≤ maxLen) (h : M.isImage s = false) :
    Calls Try.prog 16 #[.string s, .string inp] w fun e w' => e = .returned (.tuple #[.string ⟨#[]⟩, .int .i64 1]) ∧ Below w.heap.size w w' := by
  go_enter Try.func16, Try.ntmps16
  go_wp2_with fail
  refine (refImage_any s _ hs).mono ?_
  rintro e w' ⟨rfl, rfl⟩
  rw [h]
  clear h
  go_wp2
  go_ret2
  exact ⟨rfl, Below.refl _ _⟩
theorem image_head {s : ByteArray} (h : M.isImage s = true) : M.headOk s = true := by
  unfold M.isImage at h
  cases e : M.headOk s
  · rw [e] at h; exact h
  · rfl
theorem image_nodes {s : ByteArray} (h : M.isImage s = true) {k : Nat} (hk : k < M.bz s 2) : M.okOp (M.bz s (4 + 3 * k)) (M.bz s (5 + 3 * k)) (M.bz s (6 + 3 * k)) (M.bz s 1 + k) = true := by
  unfold M.isImage at h
  rw [Bool.and_eq_true, Bool.and_eq_true] at h
  exact M.all_range_at (p := fun i => M.okOp (M.bz s (4 + 3 * i)) (M.bz s (5 + 3 * i)) (M.bz s (6 + 3 * i)) (M.bz s 1 + i)) h.2.1 hk
theorem refEval_input (s inp : ByteArray) (w : World) (hs : s.size ≤ maxLen) (hi : inp.size ≤ maxLen) (h : M.isImage s = true) (hne : inp.size ≠ 2 * M.bz s 1) :
    Calls Try.prog 16 #[.string s, .string inp] w fun e w' => e = .returned (.tuple #[.string ⟨#[]⟩, .int .i64 2]) ∧ Below w.heap.size w w' := by
  obtain ⟨h0, h1, h2, h3, h4, h5, h6⟩ := M.headOk_eq (image_head h)
  have hs3 : 4 ≤ s.size := by omega
  have hib : inp.size ≤ 9223372036854775807 := by unfold maxLen at hi; omega
  clear h0 h6
  go_enter Try.func16, Try.ntmps16
  go_wp2_with fail
  refine (refImage_any s _ hs).mono ?_
  rintro e w' ⟨rfl, rfl⟩
  rw [h]
  clear h
  go_wp2_with fail
  refine (refNumber_in s 1 _ hs (by omega) (by omega)).mono ?_
  rintro e w' ⟨rfl, rfl⟩
  rw [show (1 : Int).toNat = 1 from rfl]
  go_wp2_with fail
  refine (refNumber_in s 2 _ hs (by omega) (by omega)).mono ?_
  rintro e w' ⟨rfl, rfl⟩
  rw [show (2 : Int).toNat = 2 from rfl]
  generalize M.bz s 1 = n at *
  generalize M.bz s 2 = m at *
  have hb : ((inp.size : Int) != 2 * (n : Int)) = true := by rw [bne_iff_ne]; omega
  clear hne
  go_wp2
  go_ret2
  exact ⟨rfl, Below.refl _ _⟩

set_option maxHeartbeats 1000000 in
theorem refEval_yes (s inp : ByteArray) (w : World) (hs : s.size ≤ maxLen) (h : M.isImage s = true) (heq : inp.size = 2 * M.bz s 1) :
    Calls Try.prog 16 #[.string s, .string inp] w fun e w' => e = .returned (.tuple #[.string (M.evalOut s inp), .int .i64 0]) ∧ Below w.heap.size w w' := by
  obtain ⟨h0, h1, h2, h3, h4, h5, h6⟩ := M.headOk_eq (image_head h)
  have HOP : Hid (∀ k, k < M.bz s 2 → M.okOp (M.bz s (4 + 3 * k)) (M.bz s (5 + 3 * k)) (M.bz s (6 + 3 * k)) (M.bz s 1 + k) = true) := fun k hk => image_nodes h hk
  have HR0 : Hid (M.insOf inp (M.bz s 1) = M.runTo s inp 0) := rfl
  have HFIN : Hid (M.outTo (M.runTo s inp (M.bz s 2)) s (4 + 3 * M.bz s 2) (M.bz s 3) = M.evalOut s inp) := rfl
  have HRL := hide (fun k => M.runTo_length s inp k)
  have HL : s.size ≤ 80 := by omega
  have hlo : 4 + 3 * M.bz s 2 + M.bz s 3 ≤ s.size := by omega
  have hhi : s.size ≤ 4 + 3 * M.bz s 2 + M.bz s 3 := by omega
  have hil : inp.size ≤ 2 * M.bz s 1 := by omega
  have hih : 2 * M.bz s 1 ≤ inp.size := by omega
  have hi8 : inp.size ≤ maxLen := by unfold maxLen; omega
  have HHd := hide h
  clear h0 h6 heq
  go_enter Try.func16, Try.ntmps16
  go_wp2_with fail
  refine (refImage_any s _ hs).mono ?_
  rintro e w' ⟨rfl, rfl⟩
  rw [h]
  clear h
  go_wp2_with fail
  refine (refNumber_in s 1 _ hs (by omega) (by omega)).mono ?_
  rintro e w' ⟨rfl, rfl⟩
  rw [show (1 : Int).toNat = 1 from rfl]
  go_wp2_with fail
  refine (refNumber_in s 2 _ hs (by omega) (by omega)).mono ?_
  rintro e w' ⟨rfl, rfl⟩
  rw [show (2 : Int).toNat = 2 from rfl]
  generalize M.bz s 1 = n at *
  generalize M.bz s 2 = m at *
  generalize M.bz s 3 = c at *
  have hb : ((inp.size : Int) != 2 * (n : Int)) = false := by rw [bne_eq_false_iff_eq]; omega
  go_wp2_with fail
  clear hb
  go_loopw [9, 10] (fun v i wr => ∃ k : Nat, k ≤ n ∧ i = .int .i64 k ∧ wr.ownsRow w.heap.size 3 1 v (M.insOf inp k).length (intCells (M.insOf inp k)) ∧ Below w.heap.size w wr) (fun _ i _ => n - (intOf i).toNat)
  case atStart => exact ⟨0, by omega, rfl, World.ownsRow_nil _ _ _ _, Below.refl _ _⟩
  case round =>
    obtain ⟨k, hk, rfl, hown, hbel⟩ := hrel
    by_cases hlt : k < n
    · have b1 := M.bz_lt inp (2 * k)
      have b2 := M.bz_lt inp (2 * k + 1)
      have hsz := hbel.size
      have hl := M.insOf_length inp k
      have HS := hide (M.insOf_succ inp k)
      have HO := hide hown
      have HB := hide hbel
      clear hown hbel
      go_wp2_with fail
      refine (refWord_any inp _ _ hi8 (by omega) (by omega)).mono ?_
      rintro e w' ⟨rfl, rfl⟩
      rw [show (2 * (k : Int)).toNat = 2 * k from by omega]
      go_wp2_with fail
      refine (refSigned_any _ _ (by omega) (by omega)).mono ?_
      rintro e w' ⟨rfl, rfl⟩
      have HL2 := hide hl
      clear hl
      generalize hx : M.wordVal ((M.bz inp (2 * k) : Int) * 256 + M.bz inp (2 * k + 1)) = x at *
      have HX := hide hx
      clear hx
      go_wp2_with (at_builtin; (refine append_int _ rfl (.tmp 41) (.tmp 43) rfl w.heap.size u9 (M.insOf inp k) x rfl rfl (unhide HO) (by rw [HL2.out]; omega) hsz ?_); intro v' w1 hown1 hbel1 hsz1)
      have HR : Hid (w1.ownsRow w.heap.size 3 1 v' (M.insOf inp (k + 1)).length (intCells (M.insOf inp (k + 1)))) := by rw [HS.out]; exact hown1
      have HB1 := hide (hbel1 _ (unhide HB))
      clear hown1 hbel1
      go_roundw
      case rel => exact ⟨k + 1, by omega, by go_num, unhide HR, unhide HB1⟩
      case measure => simp [intOf]; omega
    · have : k = n := by omega
      subst this
      clear hlt
      rw [HR0.out] at hown
      go_wp2_with fail
      go_loopw [9, 12] (fun v i wr => ∃ k : Nat, k ≤ m ∧ i = .int .i64 k ∧ wr.ownsRow w.heap.size 3 1 v (M.runTo s inp k).length (intCells (M.runTo s inp k)) ∧ Below w.heap.size w wr) (fun _ i _ => m - (intOf i).toNat)
      case atStart => exact ⟨0, by omega, rfl, hown, hbel⟩
      case round =>
        clear hown hbel
        obtain ⟨k, hk, rfl, hown, hbel⟩ := hrel
        have hvals := M.runTo_vals s inp k
        have HV := hide hvals
        have hsz := hbel.size
        have HRow := hide (holdsRow_own hown)
        have HO := hide hown
        have HB := hide hbel
        have HLen := hide (M.runTo_length s inp k)
        clear hown hbel hvals
        by_cases hlt : k < m
        · have b1 := M.bz_lt s (4 + 3 * k)
          have b2 := M.bz_lt s (5 + 3 * k)
          have b3 := M.bz_lt s (6 + 3 * k)
          have HS : Hid (M.runTo s inp (k + 1) = M.runTo s inp k ++ [M.nodeDo (M.bz s (4 + 3 * k)) ((M.runTo s inp k).getD (M.bz s (5 + 3 * k)) 0) ((M.runTo s inp k).getD (M.bz s (6 + 3 * k)) 0) (M.bz s (5 + 3 * k)) (M.bz s (6 + 3 * k))]) := rfl
          have hx := hide ((unhide HV).getD (M.bz s (5 + 3 * k)))
          have hy := hide ((unhide HV).getD (M.bz s (6 + 3 * k)))
          go_wp2_with fail
          refine (refNumber_in s _ _ hs (by omega) (by omega)).mono ?_
          rintro e w' ⟨rfl, rfl⟩
          rw [show (5 + 3 * (k : Int)).toNat = 5 + 3 * k from by omega]
          generalize M.bz s (5 + 3 * k) = a at *
          go_wp2_with fail
          refine (refNumber_in s _ _ hs (by omega) (by omega)).mono ?_
          rintro e w' ⟨rfl, rfl⟩
          rw [show (6 + 3 * (k : Int)).toNat = 6 + 3 * k from by omega]
          generalize M.bz s (6 + 3 * k) = b at *
          go_wp2_with fail
          refine (refNumber_in s _ _ hs (by omega) (by omega)).mono ?_
          rintro e w' ⟨rfl, rfl⟩
          rw [show (4 + 3 * (k : Int)).toNat = 4 + 3 * k from by omega]
          generalize M.bz s (4 + 3 * k) = op at *
          go_wp2_with fail
          refine (refOf_any _ (M.runTo s inp k) a _ (unhide HRow) (by omega)).mono ?_
          rintro e w' ⟨rfl, rfl⟩
          generalize (M.runTo s inp k).getD a 0 = x at *
          go_wp2_with fail
          refine (refOf_any _ (M.runTo s inp k) b _ (unhide HRow) (by omega)).mono ?_
          rintro e w' ⟨rfl, rfl⟩
          generalize (M.runTo s inp k).getD b 0 = y at *
          go_wp2_with fail
          refine (refDone_any op x y a b _ (unhide hx) (unhide hy) (by omega) b2 b3).mono ?_
          rintro e w' ⟨rfl, rfl⟩
          generalize M.nodeDo op x y a b = z at *
          go_wp2_with (at_builtin; (refine append_int _ rfl (.tmp 74) (.tmp 76) rfl w.heap.size u9 (M.runTo s inp k) z rfl rfl (unhide HO) (by rw [HLen.out]; have := M.bz_lt s 1; omega) hsz ?_); intro v' w1 hown1 hbel1 hsz1)
          have HR : Hid (w1.ownsRow w.heap.size 3 1 v' (M.runTo s inp (k + 1)).length (intCells (M.runTo s inp (k + 1)))) := by rw [HS.out]; exact hown1
          have HB1 := hide (hbel1 _ (unhide HB))
          clear hown1 hbel1
          go_roundw
          case rel => exact ⟨k + 1, by omega, by go_num, unhide HR, unhide HB1⟩
          case measure => simp [intOf]; omega
        · have : k = m := by omega
          subst this
          clear hlt
          go_wp2_with fail
          go_loopw [16, 17] (fun v i wr => ∃ (j : Nat) (o : ByteArray), j ≤ c ∧ i = .int .i64 (4 + 3 * k + j : Nat) ∧ v = .string o ∧ Hid (o = M.outTo (M.runTo s inp k) s (4 + 3 * k) j) ∧ o.size ≤ 8 ∧ HoldsRow wr u9 (M.runTo s inp k).length (intCells (M.runTo s inp k)) ∧ Below w.heap.size w wr) (fun _ i _ => s.size - (intOf i).toNat)
          case atStart => exact ⟨0, _, by omega, by go_num, rfl, rfl, by decide, unhide HRow, unhide HB⟩
          case round =>
            clear HO HB HRow
            obtain ⟨j, o, hj, rfl, rfl, ho, ho8, hrow, hbel⟩ := hrel
            have HRow := hide hrow
            have HB := hide hbel
            have hsz := hbel.size
            clear hrow hbel
            by_cases hlt : j < c
            · have b1 := M.bz_lt s (4 + 3 * k + j)
              have HS : Hid (M.outTo (M.runTo s inp k) s (4 + 3 * k) (j + 1) = M.outTo (M.runTo s inp k) s (4 + 3 * k) j ++ M.wordText ((M.runTo s inp k).getD (M.bz s (4 + 3 * k + j)) 0)) := rfl
              have HZ := hide (M.outTo_size (M.runTo s inp k) s (4 + 3 * k) (j + 1))
              have hx := hide ((unhide HV).getD (M.bz s (4 + 3 * k + j)))
              go_wp2_with fail
              refine (refNumber_in s _ _ hs (by omega) (by omega)).mono ?_
              rintro e w' ⟨rfl, rfl⟩
              rw [show (4 + 3 * (k : Int) + (j : Int)).toNat = 4 + 3 * k + j from by omega]
              generalize M.bz s (4 + 3 * k + j) = a at *
              go_wp2_with fail
              refine (refOf_any _ (M.runTo s inp k) a _ (unhide HRow) (by omega)).mono ?_
              rintro e w' ⟨rfl, rfl⟩
              generalize (M.runTo s inp k).getD a 0 = x at *
              go_wp2_with fail
              refine (refBytes_any x _ (unhide hx)).mono ?_
              rintro e w1 ⟨rfl, hb1⟩
              have ht := M.wordText_size x
              generalize M.wordText x = tx at *
              have ht2 : tx.size ≤ 2 := by omega
              clear ht
              have HB1 := hide ((unhide HB).trans (hb1.mono hsz))
              have HR1 := hide ((unhide HRow).mono hb1)
              clear hb1
              have HEQ : Hid (o ++ tx = M.outTo (M.runTo s inp k) s (4 + 3 * k) (j + 1)) := by rw [HS.out, ← ho.out]; rfl
              have HSZ : Hid ((o ++ tx).size ≤ 8) := by rw [HEQ.out, HZ.out]; show _ ≤ _; omega
              go_wp2
              go_roundw
              case rel => exact ⟨j + 1, o ++ tx, by omega, by go_num, rfl, HEQ, unhide HSZ, unhide HR1, unhide HB1⟩
              case measure => simp [intOf]; omega
            · have : j = c := by omega
              subst this
              have HEND : Hid (o = M.evalOut s inp) := by rw [ho.out, ← HFIN.out]; rfl
              go_wp2
              go_ret2
              exact ⟨by rw [HEND.out]; rfl, unhide HB⟩
end Go.Proofs.Ytjfmiomopfjecaa

/- The document's answer where a step is none, and slotsref.Patch. -/
import Derived.Test.YtjfmiomopfjecaaPatchRef
namespace Go.Proofs.Ytjfmiomopfjecaa
open Go.RowKit Go.Lib

theorem notOk {b p : ByteArray} (h : M.opOk b p 0 = false) (h3 : M.bz p 0 ≤ 3) : p.size < M.opLen p 0 ∨ ((M.bz p 0 = 0 ∨ M.bz p 0 = 3) ∧ b.size < M.bz p 1 + M.bz p 2) := by
  unfold M.opOk M.opThere M.opFits at h
  rw [decide_eq_true h3, Bool.true_and] at h
  simp only [Nat.zero_add, Bool.and_eq_false_iff, decide_eq_false_iff_not, Bool.or_eq_false_iff, Bool.not_eq_false', Bool.or_eq_true, decide_eq_true_eq] at h
  omega
theorem refNum_out {s : ByteArray} {i : Nat} (h : s.size ≤ i) : refNum s i = -1 := if_neg (by omega)
theorem firstNo_zero (b p : ByteArray) (w : World) (hp : p.size ≤ 2000000) (hb : b.size ≤ 2000000) (hp0 : 0 < p.size) (h0 : M.bz p 0 = 0) (hok : M.opOk b p 0 = false) :
    Calls Try.prog 61 #[.string b, .string p] w fun e w' => e = .returned firstNo ∧ Below w.heap.size w w' := by
  have hpm : p.size ≤ maxLen := by unfold maxLen; omega
  have hl : M.opLen p 0 = 3 := by simp [M.opLen, h0]
  have hno := notOk hok (by omega)
  rw [hl] at hno
  have HC : Hid (refNum p 1 < 0 ∨ refNum p 2 < 0 ∨ (b.size : Int) < refNum p 1 + refNum p 2) := by
    show _ ∨ _ ∨ _
    by_cases h3 : p.size < 3
    · rw [refNum_out (s := p) (i := 2) (by omega)]; omega
    · rw [refNum_in (s := p) (i := 1) (by omega), refNum_in (s := p) (i := 2) (by omega)]; omega
  have n0 := refNum_in (s := p) (i := 0) (by omega)
  obtain ⟨r1, r1'⟩ := refNum_bd p 1
  obtain ⟨r2, r2'⟩ := refNum_bd p 2
  clear hok hno hl
  go_enter Try.func61, Try.ntmps61
  go_wp2_with fail
  refine (refNumber_nat p 1 _ hpm).mono ?_
  rintro e w' ⟨rfl, rfl⟩
  go_wp2_with fail
  refine (refNumber_nat p 2 _ hpm).mono ?_
  rintro e w' ⟨rfl, rfl⟩
  go_wp2_with fail
  refine (refNumber_nat p 0 _ hpm).mono ?_
  rintro e w' ⟨rfl, rfl⟩
  rw [n0, h0]
  clear n0 h0
  generalize refNum p 1 = x at *
  generalize refNum p 2 = y at *
  go_wp2_with fail
  refine (taken_no b x y _ hb r1 (by omega) r2 (by omega) (unhide HC)).mono ?_
  rintro e w' ⟨rfl, rfl⟩
  go_wp2
  exact bodyPost_ret (v := firstNo) (by simp [results, Try.results61, go_sem, firstNo]) rfl ⟨rfl, Below.refl _ _⟩
theorem firstNo_one (b p : ByteArray) (w : World) (hp : p.size ≤ 2000000) (hp0 : 0 < p.size) (h0 : M.bz p 0 = 1) (hok : M.opOk b p 0 = false) :
    Calls Try.prog 61 #[.string b, .string p] w fun e w' => e = .returned firstNo ∧ Below w.heap.size w w' := by
  have hpm : p.size ≤ maxLen := by unfold maxLen; omega
  have hl : M.opLen p 0 = 2 + M.bz p 1 := by simp [M.opLen, h0]
  have hno := notOk hok (by omega)
  rw [hl] at hno
  have HC : Hid ((2 : Int) < 0 ∨ refNum p 1 < 0 ∨ (p.size : Int) < 2 + refNum p 1) := by
    show _ ∨ _ ∨ _
    by_cases h3 : p.size < 2
    · rw [refNum_out (s := p) (i := 1) (by omega)]; omega
    · rw [refNum_in (s := p) (i := 1) (by omega)]; omega
  have n0 := refNum_in (s := p) (i := 0) (by omega)
  obtain ⟨r1, r1'⟩ := refNum_bd p 1
  obtain ⟨r2, r2'⟩ := refNum_bd p 2
  clear hok hno hl
  go_enter Try.func61, Try.ntmps61
  go_wp2_with fail
  refine (refNumber_nat p 1 _ hpm).mono ?_
  rintro e w' ⟨rfl, rfl⟩
  go_wp2_with fail
  refine (refNumber_nat p 2 _ hpm).mono ?_
  rintro e w' ⟨rfl, rfl⟩
  go_wp2_with fail
  refine (refNumber_nat p 0 _ hpm).mono ?_
  rintro e w' ⟨rfl, rfl⟩
  rw [n0, h0]
  clear n0 h0
  generalize refNum p 1 = x at *
  generalize refNum p 2 = y at *
  go_wp2_with fail
  refine (taken_no p 2 x _ hp (by omega) (by omega) r1 (by omega) (unhide HC)).mono ?_
  rintro e w' ⟨rfl, rfl⟩
  go_wp2
  exact bodyPost_ret (v := firstNo) (by simp [results, Try.results61, go_sem, firstNo]) rfl ⟨rfl, Below.refl _ _⟩
theorem firstNo_two (b p : ByteArray) (w : World) (hp : p.size ≤ 2000000) (hp0 : 0 < p.size) (h0 : M.bz p 0 = 2) (hok : M.opOk b p 0 = false) :
    Calls Try.prog 61 #[.string b, .string p] w fun e w' => e = .returned firstNo ∧ Below w.heap.size w w' := by
  have hpm : p.size ≤ maxLen := by unfold maxLen; omega
  have hl : M.opLen p 0 = 3 := by simp [M.opLen, h0]
  have hno := notOk hok (by omega)
  rw [hl] at hno
  have n2 := refNum_out (s := p) (i := 2) (by omega)
  have n0 := refNum_in (s := p) (i := 0) (by omega)
  obtain ⟨r1, r1'⟩ := refNum_bd p 1
  clear hok hno hl
  go_enter Try.func61, Try.ntmps61
  go_wp2_with fail
  refine (refNumber_nat p 1 _ hpm).mono ?_
  rintro e w' ⟨rfl, rfl⟩
  go_wp2_with fail
  refine (refNumber_nat p 2 _ hpm).mono ?_
  rintro e w' ⟨rfl, rfl⟩
  rw [n2]
  go_wp2_with fail
  refine (refNumber_nat p 0 _ hpm).mono ?_
  rintro e w' ⟨rfl, rfl⟩
  rw [n0, h0]
  clear n0 h0 n2
  generalize refNum p 1 = x at *
  go_wp2
  exact bodyPost_ret (v := firstNo) (by simp [results, Try.results61, go_sem, firstNo]) rfl ⟨rfl, Below.refl _ _⟩
theorem firstNo_three (b p : ByteArray) (w : World) (hp : p.size ≤ 2000000) (hb : b.size ≤ 2000000) (hp0 : 0 < p.size) (h0 : M.bz p 0 = 3) (hok : M.opOk b p 0 = false) :
    Calls Try.prog 61 #[.string b, .string p] w fun e w' => e = .returned firstNo ∧ Below w.heap.size w w' := by
  have hpm : p.size ≤ maxLen := by unfold maxLen; omega
  have hl : M.opLen p 0 = 3 + M.bz p 2 := by simp [M.opLen, h0]
  have hno := notOk hok (by omega)
  rw [hl] at hno
  have HC : Hid (refNum p 1 < 0 ∨ refNum p 2 < 0 ∨ (b.size : Int) < refNum p 1 + refNum p 2 ∨ (p.size : Int) < 3 + refNum p 2) := by
    show _ ∨ _ ∨ _ ∨ _
    by_cases h3 : p.size < 3
    · rw [refNum_out (s := p) (i := 2) (by omega)]; omega
    · rw [refNum_in (s := p) (i := 1) (by omega), refNum_in (s := p) (i := 2) (by omega)]; omega
  have n0 := refNum_in (s := p) (i := 0) (by omega)
  obtain ⟨r1, r1'⟩ := refNum_bd p 1
  obtain ⟨r2, r2'⟩ := refNum_bd p 2
  clear hok hno hl
  go_enter Try.func61, Try.ntmps61
  go_wp2_with fail
  refine (refNumber_nat p 1 _ hpm).mono ?_
  rintro e w' ⟨rfl, rfl⟩
  go_wp2_with fail
  refine (refNumber_nat p 2 _ hpm).mono ?_
  rintro e w' ⟨rfl, rfl⟩
  go_wp2_with fail
  refine (refNumber_nat p 0 _ hpm).mono ?_
  rintro e w' ⟨rfl, rfl⟩
  rw [n0, h0]
  clear n0 h0
  generalize refNum p 1 = x at *
  generalize refNum p 2 = y at *
  by_cases hx : x < 0 ∨ y < 0 ∨ (b.size : Int) < x + y
  · go_wp2_with fail
    refine (taken_no b x y _ hb r1 (by omega) r2 (by omega) hx).mono ?_
    rintro e w' ⟨rfl, rfl⟩
    by_cases hy : y < 0 ∨ (p.size : Int) < 3 + y
    · have HY := hide hy
      clear hx hy
      go_wp2_with fail
      refine (taken_no p 3 y _ hp (by omega) (by omega) r2 (by omega) (.inr (unhide HY))).mono ?_
      rintro e w' ⟨rfl, rfl⟩
      go_wp2
      exact bodyPost_ret (v := firstNo) (by simp [results, Try.results61, go_sem, firstNo]) rfl ⟨rfl, Below.refl _ _⟩
    · obtain ⟨m, rfl⟩ := Int.eq_ofNat_of_zero_le (show 0 ≤ y by omega)
      have HY : Hid (3 + m ≤ p.size) := by show 3 + m ≤ p.size; omega
      clear hx hy
      go_wp2_with fail
      refine (taken_yes_at p _ _ 3 m _ hp (unhide HY) rfl rfl).mono ?_
      rintro e w' ⟨rfl, rfl⟩
      generalize (M.mk m fun j => M.bz p (3 + j)) = t at *
      go_wp2
      exact bodyPost_ret (v := firstNo) (by simp [results, Try.results61, go_sem, firstNo]) rfl ⟨rfl, Below.refl _ _⟩
  · have hc := HC.out
    have hy : (p.size : Int) < 3 + y := by omega
    obtain ⟨k, rfl⟩ := Int.eq_ofNat_of_zero_le (show 0 ≤ x by omega)
    obtain ⟨m, rfl⟩ := Int.eq_ofNat_of_zero_le (show 0 ≤ y by omega)
    have HX : Hid (k + m ≤ b.size) := by show k + m ≤ b.size; omega
    have HY := hide hy
    clear hx hc HC hy
    go_wp2_with fail
    refine (taken_yes b k m _ hb (unhide HX)).mono ?_
    rintro e w' ⟨rfl, rfl⟩
    generalize (M.mk m fun j => M.bz b (k + j)) = t at *
    go_wp2_with fail
    refine (taken_no p 3 m _ hp (by omega) (by omega) r2 (by omega) (.inr (.inr (unhide HY)))).mono ?_
    rintro e w' ⟨rfl, rfl⟩
    go_wp2
    exact bodyPost_ret (v := firstNo) (by simp [results, Try.results61, go_sem, firstNo]) rfl ⟨rfl, Below.refl _ _⟩
theorem firstNo_more (b p : ByteArray) (w : World) (hp : p.size ≤ 2000000) (hp0 : 0 < p.size) (h0 : 3 < M.bz p 0) :
    Calls Try.prog 61 #[.string b, .string p] w fun e w' => e = .returned firstNo ∧ Below w.heap.size w w' := by
  have hpm : p.size ≤ maxLen := by unfold maxLen; omega
  have n0 := refNum_in (s := p) (i := 0) (by omega)
  have b0 := M.bz_lt p 0
  go_enter Try.func61, Try.ntmps61
  go_wp2_with fail
  refine (refNumber_nat p 1 _ hpm).mono ?_
  rintro e w' ⟨rfl, rfl⟩
  go_wp2_with fail
  refine (refNumber_nat p 2 _ hpm).mono ?_
  rintro e w' ⟨rfl, rfl⟩
  go_wp2_with fail
  refine (refNumber_nat p 0 _ hpm).mono ?_
  rintro e w' ⟨rfl, rfl⟩
  rw [n0]
  clear n0
  generalize M.bz p 0 = z at *
  have k0 : ((z : Int) == 0) = false := by rw [beq_eq_false_iff_ne]; omega
  have k1 : ((z : Int) == 1) = false := by rw [beq_eq_false_iff_ne]; omega
  have k2 : ((z : Int) == 2) = false := by rw [beq_eq_false_iff_ne]; omega
  have k3 : ((z : Int) == 3) = false := by rw [beq_eq_false_iff_ne]; omega
  generalize refNum p 1 = x at *
  generalize refNum p 2 = y at *
  go_wp2
  exact bodyPost_ret (v := firstNo) (by simp [results, Try.results61, go_sem, firstNo]) rfl ⟨rfl, Below.refl _ _⟩
theorem first_yes (b p : ByteArray) (w : World) (hp : p.size ≤ 2000000) (hb : b.size ≤ 2000000) (hp0 : 0 < p.size) (hok : M.opOk b p 0 = true) :
    Calls Try.prog 61 #[.string b, .string p] w fun e w' => e = .returned (firstYes b p) ∧ Below w.heap.size w w' := by
  have h3 := M.opOk_what hok
  by_cases h0 : M.bz p 0 = 0
  · exact first_zero b p w hp hb hp0 h0 hok
  by_cases h1 : M.bz p 0 = 1
  · exact first_one b p w hp hb hp0 h1 hok
  by_cases h2 : M.bz p 0 = 2
  · exact first_two b p w hp hb hp0 h2 hok
  exact first_three b p w hp hb hp0 (by omega) hok
theorem first_no (b p : ByteArray) (w : World) (hp : p.size ≤ 2000000) (hb : b.size ≤ 2000000) (hp0 : 0 < p.size) (hok : M.opOk b p 0 = false) :
    Calls Try.prog 61 #[.string b, .string p] w fun e w' => e = .returned firstNo ∧ Below w.heap.size w w' := by
  by_cases h0 : M.bz p 0 = 0
  · exact firstNo_zero b p w hp hb hp0 h0 hok
  by_cases h1 : M.bz p 0 = 1
  · exact firstNo_one b p w hp hp0 h1 hok
  by_cases h2 : M.bz p 0 = 2
  · exact firstNo_two b p w hp hp0 h2 hok
  by_cases h3 : M.bz p 0 = 3
  · exact firstNo_three b p w hp hb hp0 h3 hok
  exact firstNo_more b p w hp hp0 (by omega)
end Go.Proofs.Ytjfmiomopfjecaa

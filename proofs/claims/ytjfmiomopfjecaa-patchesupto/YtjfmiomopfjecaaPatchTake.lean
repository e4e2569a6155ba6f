/- A step that is read. -/
import Derived.Test.YtjfmiomopfjecaaPatchRead
namespace Go.Proofs.Ytjfmiomopfjecaa
open Go.RowKit Go.Lib

theorem there_iff (p : ByteArray) (i : Nat) (h : M.bz p i ≤ 3) : M.opThere p i = decide (i + M.opLen p i ≤ p.size) := by
  unfold M.opThere
  rw [decide_eq_true h, Bool.true_and]
theorem wordByte_at (s : ByteArray) (k : Int) (i : Nat) (w : World) (hs : s.size ≤ maxLen) (h : k = i) :
    Calls Try.prog 71 #[.string s, .int .i64 k] w fun e w' => e = .returned (.int .i64 (M.bz s i)) ∧ w = w' := by
  subst h
  exact wordByte_nat s i w hs
theorem part_yes_at (s : ByteArray) (k c : Int) (a n : Nat) (w : World) (hs : s.size ≤ 2000000) (h : a + n ≤ s.size) (hk : k = a) (hc : c = n) :
    Calls Try.prog 97 #[.string s, .int .i64 k, .int .i64 c] w fun e w' => e = .returned (.tuple #[.string (M.mk n fun j => M.bz s (a + j)), .bool true]) ∧ w = w' := by
  subst hk hc
  exact part_yes s a n w hs h
theorem part_no_at (s : ByteArray) (k c : Int) (a n : Nat) (w : World) (hs : s.size ≤ 2000000) (ha : a ≤ 4000000) (hn : n ≤ 4000000) (h : s.size < a + n) (hk : k = a) (hc : c = n) :
    Calls Try.prog 97 #[.string s, .int .i64 k, .int .i64 c] w fun e w' => e = .returned (.tuple #[.string ⟨#[]⟩, .bool false]) ∧ w = w' := by
  subst hk hc
  exact part_no s a n w hs ha hn h
theorem two_new (w : World) (a b : Obj) : Below w.heap.size w ((w.alloc a).alloc b) := ((Below.refl _ _).alloc (Nat.le_refl _) _).alloc (by simp) _

def Reads (p : ByteArray) (i : Nat) (w : World) (e : Ending) (w' : World) : Prop :=
  (M.opThere p i = true → e = .returned (.tuple #[stepV p i, .int .i64 (i + M.opLen p i : Nat), .bool true])) ∧
  (M.opThere p i = false → e = .returned (.tuple #[stepNo, .int .i64 0, .bool false])) ∧ Below w.heap.size w w'
theorem reads_yes {p : ByteArray} {i : Nat} {w w' : World} {v : Value} {k : Int} (h : M.opThere p i = true) (hv : stepV p i = v) (hk : k = (i + M.opLen p i : Nat)) (hb : Below w.heap.size w w') : Reads p i w (.returned (.tuple #[v, .int .i64 k, .bool true])) w' :=
  ⟨fun _ => by rw [hv, hk], ⟨fun h' => absurd (h.symm.trans h') (by decide), hb⟩⟩
theorem reads_no {p : ByteArray} {i : Nat} {w w' : World} (h : M.opThere p i = false) (hb : Below w.heap.size w w') : Reads p i w (.returned (.tuple #[stepNo, .int .i64 0, .bool false])) w' :=
  ⟨fun h' => absurd (h.symm.trans h') (by decide), ⟨fun _ => rfl, hb⟩⟩
theorem read_zero (p : ByteArray) (i : Nat) (w : World) (hp : p.size ≤ 2000000) (hi : i < p.size) (h0 : M.bz p i = 0) :
    Calls Try.prog 93 #[.string p, .int .i64 i] w fun e w' => Reads p i w e w' := by
  have hpm : p.size ≤ maxLen := by unfold maxLen; omega
  have b1 := M.bz_lt p (i + 1)
  have b2 := M.bz_lt p (i + 2)
  have hl : M.opLen p i = 3 := by simp [M.opLen, h0]
  have HT := hide (there_iff p i (by omega))
  have HV : Hid (stepV p i = .agg #[.int .i64 (0 : Nat), .int .i64 (M.bz p (i + 1) : Nat), .int .i64 (M.bz p (i + 2) : Nat), .string (M.mk 0 fun j => M.bz p (i + 3 + j))]) := by
    show stepV p i = _
    unfold stepV opOwn
    simp [h0, hl, opAt, M.opCount, opHead]
  have HL := hide hl
  rw [hl] at HT
  have hl' : i + M.opLen p i = i + (3) := by rw [hl]
  clear hl hl'
  go_enter Try.func93, Try.ntmps93
  go_wp2_with fail
  refine (wordByte_nat p i _ hpm).mono ?_
  rintro e w' ⟨rfl, rfl⟩
  rw [h0]
  clear h0
  go_wp2_with fail
  refine (wordByte_at p _ (i + 1) _ hpm (by omega)).mono ?_
  rintro e w' ⟨rfl, rfl⟩
  generalize M.bz p (i + 1) = x at *
  go_wp2_with fail
  refine (wordByte_at p _ (i + 2) _ hpm (by omega)).mono ?_
  rintro e w' ⟨rfl, rfl⟩
  generalize M.bz p (i + 2) = y at *
  by_cases hq : i + 3 + 0 ≤ p.size
  · have HY : Hid (M.opThere p i = true) := by rw [HT.out]; exact decide_eq_true (by omega)
    go_wp2_with fail
    refine (part_yes_at p _ _ (i + 3) 0 _ hp hq (by omega) (by omega)).mono ?_
    rintro e w' ⟨rfl, rfl⟩
    generalize (M.mk 0 fun j => M.bz p (i + 3 + j)) = t at *
    go_wp2
    refine bodyPost_ret (v := .tuple #[.agg #[.int .i64 (0 : Nat), .int .i64 (x : Nat), .int .i64 y, .string t], .int .i64 _, .bool true]) (by simp [results, Try.results93, go_sem]; rfl) rfl ?_
    exact reads_yes (unhide HY) HV.out (by rw [HL.out]; omega) (two_new _ _ _)
  · have HY : Hid (M.opThere p i = false) := by rw [HT.out]; exact decide_eq_false (by omega)
    go_wp2_with fail
    refine (part_no_at p _ _ (i + 3) 0 _ hp (by omega) (by omega) (by omega) (by omega) (by omega)).mono ?_
    rintro e w' ⟨rfl, rfl⟩
    go_wp2
    refine bodyPost_ret (v := .tuple #[stepNo, .int .i64 0, .bool false]) (by simp [results, Try.results93, go_sem, stepNo]) rfl ?_
    exact reads_no (unhide HY) (two_new _ _ _)
theorem read_one (p : ByteArray) (i : Nat) (w : World) (hp : p.size ≤ 2000000) (hi : i < p.size) (h0 : M.bz p i = 1) :
    Calls Try.prog 93 #[.string p, .int .i64 i] w fun e w' => Reads p i w e w' := by
  have hpm : p.size ≤ maxLen := by unfold maxLen; omega
  have b1 := M.bz_lt p (i + 1)
  have b2 := M.bz_lt p (i + 2)
  have hl : M.opLen p i = 2 + M.bz p (i + 1) := by simp [M.opLen, h0]
  have HT := hide (there_iff p i (by omega))
  have HV : Hid (stepV p i = .agg #[.int .i64 (1 : Nat), .int .i64 (0 : Nat), .int .i64 (M.bz p (i + 1) : Nat), .string (M.mk (M.bz p (i + 1)) fun j => M.bz p (i + 2 + j))]) := by
    show stepV p i = _
    unfold stepV opOwn
    simp [h0, hl, opAt, M.opCount, opHead]
  have HL := hide hl
  rw [hl] at HT
  have hl' : i + M.opLen p i = i + (2 + M.bz p (i + 1)) := by rw [hl]
  clear hl hl'
  go_enter Try.func93, Try.ntmps93
  go_wp2_with fail
  refine (wordByte_nat p i _ hpm).mono ?_
  rintro e w' ⟨rfl, rfl⟩
  rw [h0]
  clear h0
  go_wp2_with fail
  refine (wordByte_at p _ (i + 1) _ hpm (by omega)).mono ?_
  rintro e w' ⟨rfl, rfl⟩
  generalize M.bz p (i + 1) = x at *
  by_cases hq : i + 2 + x ≤ p.size
  · have HY : Hid (M.opThere p i = true) := by rw [HT.out]; exact decide_eq_true (by omega)
    go_wp2_with fail
    refine (part_yes_at p _ _ (i + 2) x _ hp hq (by omega) (by omega)).mono ?_
    rintro e w' ⟨rfl, rfl⟩
    generalize (M.mk x fun j => M.bz p (i + 2 + j)) = t at *
    go_wp2
    refine bodyPost_ret (v := .tuple #[.agg #[.int .i64 (1 : Nat), .int .i64 (0 : Nat), .int .i64 x, .string t], .int .i64 _, .bool true]) (by simp [results, Try.results93, go_sem]; rfl) rfl ?_
    exact reads_yes (unhide HY) HV.out (by rw [HL.out]; omega) (two_new _ _ _)
  · have HY : Hid (M.opThere p i = false) := by rw [HT.out]; exact decide_eq_false (by omega)
    go_wp2_with fail
    refine (part_no_at p _ _ (i + 2) x _ hp (by omega) (by omega) (by omega) (by omega) (by omega)).mono ?_
    rintro e w' ⟨rfl, rfl⟩
    go_wp2
    refine bodyPost_ret (v := .tuple #[stepNo, .int .i64 0, .bool false]) (by simp [results, Try.results93, go_sem, stepNo]) rfl ?_
    exact reads_no (unhide HY) (two_new _ _ _)
theorem read_two (p : ByteArray) (i : Nat) (w : World) (hp : p.size ≤ 2000000) (hi : i < p.size) (h0 : M.bz p i = 2) :
    Calls Try.prog 93 #[.string p, .int .i64 i] w fun e w' => Reads p i w e w' := by
  have hpm : p.size ≤ maxLen := by unfold maxLen; omega
  have b1 := M.bz_lt p (i + 1)
  have b2 := M.bz_lt p (i + 2)
  have hl : M.opLen p i = 3 := by simp [M.opLen, h0]
  have HT := hide (there_iff p i (by omega))
  have HV : Hid (stepV p i = .agg #[.int .i64 (2 : Nat), .int .i64 (0 : Nat), .int .i64 (M.bz p (i + 1) : Nat), .string (M.mk 1 fun j => M.bz p (i + 2 + j))]) := by
    show stepV p i = _
    unfold stepV opOwn
    simp [h0, hl, opAt, M.opCount, opHead]
  have HL := hide hl
  rw [hl] at HT
  have hl' : i + M.opLen p i = i + (3) := by rw [hl]
  clear hl hl'
  go_enter Try.func93, Try.ntmps93
  go_wp2_with fail
  refine (wordByte_nat p i _ hpm).mono ?_
  rintro e w' ⟨rfl, rfl⟩
  rw [h0]
  clear h0
  go_wp2_with fail
  refine (wordByte_at p _ (i + 1) _ hpm (by omega)).mono ?_
  rintro e w' ⟨rfl, rfl⟩
  generalize M.bz p (i + 1) = x at *
  by_cases hq : i + 2 + 1 ≤ p.size
  · have HY : Hid (M.opThere p i = true) := by rw [HT.out]; exact decide_eq_true (by omega)
    go_wp2_with fail
    refine (part_yes_at p _ _ (i + 2) 1 _ hp hq (by omega) (by omega)).mono ?_
    rintro e w' ⟨rfl, rfl⟩
    generalize (M.mk 1 fun j => M.bz p (i + 2 + j)) = t at *
    go_wp2
    refine bodyPost_ret (v := .tuple #[.agg #[.int .i64 (2 : Nat), .int .i64 (0 : Nat), .int .i64 x, .string t], .int .i64 _, .bool true]) (by simp [results, Try.results93, go_sem]; rfl) rfl ?_
    exact reads_yes (unhide HY) HV.out (by rw [HL.out]; omega) (two_new _ _ _)
  · have HY : Hid (M.opThere p i = false) := by rw [HT.out]; exact decide_eq_false (by omega)
    go_wp2_with fail
    refine (part_no_at p _ _ (i + 2) 1 _ hp (by omega) (by omega) (by omega) (by omega) (by omega)).mono ?_
    rintro e w' ⟨rfl, rfl⟩
    go_wp2
    refine bodyPost_ret (v := .tuple #[stepNo, .int .i64 0, .bool false]) (by simp [results, Try.results93, go_sem, stepNo]) rfl ?_
    exact reads_no (unhide HY) (two_new _ _ _)
theorem read_three (p : ByteArray) (i : Nat) (w : World) (hp : p.size ≤ 2000000) (hi : i < p.size) (h0 : M.bz p i = 3) :
    Calls Try.prog 93 #[.string p, .int .i64 i] w fun e w' => Reads p i w e w' := by
  have hpm : p.size ≤ maxLen := by unfold maxLen; omega
  have b1 := M.bz_lt p (i + 1)
  have b2 := M.bz_lt p (i + 2)
  have hl : M.opLen p i = 3 + M.bz p (i + 2) := by simp [M.opLen, h0]
  have HT := hide (there_iff p i (by omega))
  have HV : Hid (stepV p i = .agg #[.int .i64 (3 : Nat), .int .i64 (M.bz p (i + 1) : Nat), .int .i64 (M.bz p (i + 2) : Nat), .string (M.mk (M.bz p (i + 2)) fun j => M.bz p (i + 3 + j))]) := by
    show stepV p i = _
    unfold stepV opOwn
    simp [h0, hl, opAt, M.opCount, opHead]
  have HL := hide hl
  rw [hl] at HT
  have hl' : i + M.opLen p i = i + (3 + M.bz p (i + 2)) := by rw [hl]
  clear hl hl'
  go_enter Try.func93, Try.ntmps93
  go_wp2_with fail
  refine (wordByte_nat p i _ hpm).mono ?_
  rintro e w' ⟨rfl, rfl⟩
  rw [h0]
  clear h0
  go_wp2_with fail
  refine (wordByte_at p _ (i + 1) _ hpm (by omega)).mono ?_
  rintro e w' ⟨rfl, rfl⟩
  generalize M.bz p (i + 1) = x at *
  go_wp2_with fail
  refine (wordByte_at p _ (i + 2) _ hpm (by omega)).mono ?_
  rintro e w' ⟨rfl, rfl⟩
  generalize M.bz p (i + 2) = y at *
  by_cases hq : i + 3 + y ≤ p.size
  · have HY : Hid (M.opThere p i = true) := by rw [HT.out]; exact decide_eq_true (by omega)
    go_wp2_with fail
    refine (part_yes_at p _ _ (i + 3) y _ hp hq (by omega) (by omega)).mono ?_
    rintro e w' ⟨rfl, rfl⟩
    generalize (M.mk y fun j => M.bz p (i + 3 + j)) = t at *
    go_wp2
    refine bodyPost_ret (v := .tuple #[.agg #[.int .i64 (3 : Nat), .int .i64 (x : Nat), .int .i64 y, .string t], .int .i64 _, .bool true]) (by simp [results, Try.results93, go_sem]; rfl) rfl ?_
    exact reads_yes (unhide HY) HV.out (by rw [HL.out]; omega) (two_new _ _ _)
  · have HY : Hid (M.opThere p i = false) := by rw [HT.out]; exact decide_eq_false (by omega)
    go_wp2_with fail
    refine (part_no_at p _ _ (i + 3) y _ hp (by omega) (by omega) (by omega) (by omega) (by omega)).mono ?_
    rintro e w' ⟨rfl, rfl⟩
    go_wp2
    refine bodyPost_ret (v := .tuple #[stepNo, .int .i64 0, .bool false]) (by simp [results, Try.results93, go_sem, stepNo]) rfl ?_
    exact reads_no (unhide HY) (two_new _ _ _)
theorem read_more (p : ByteArray) (i : Nat) (w : World) (hp : p.size ≤ 2000000) (hi : i < p.size) (h0 : 3 < M.bz p i) :
    Calls Try.prog 93 #[.string p, .int .i64 i] w fun e w' => Reads p i w e w' := by
  have hpm : p.size ≤ maxLen := by unfold maxLen; omega
  have b0 := M.bz_lt p i
  have b1 := M.bz_lt p (i + 1)
  have HY : Hid (M.opThere p i = false) := by
    show M.opThere p i = false
    unfold M.opThere
    rw [decide_eq_false (by omega), Bool.false_and]
  go_enter Try.func93, Try.ntmps93
  go_wp2_with fail
  refine (wordByte_nat p i _ hpm).mono ?_
  rintro e w' ⟨rfl, rfl⟩
  generalize M.bz p i = z at *
  have k0 : ((z : Int) == 0) = false := by rw [beq_eq_false_iff_ne]; omega
  have k1 : ((z : Int) == 1) = false := by rw [beq_eq_false_iff_ne]; omega
  have k2 : ((z : Int) == 2) = false := by rw [beq_eq_false_iff_ne]; omega
  have k3 : ((z : Int) == 3) = false := by rw [beq_eq_false_iff_ne]; omega
  go_wp2_with fail
  refine (wordByte_at p _ (i + 1) _ hpm (by omega)).mono ?_
  rintro e w' ⟨rfl, rfl⟩
  generalize M.bz p (i + 1) = x at *
  go_wp2
  refine bodyPost_ret (v := .tuple #[stepNo, .int .i64 0, .bool false]) (by simp [results, Try.results93, go_sem, stepNo]) rfl ?_
  exact reads_no (unhide HY) (two_new _ _ _)
theorem read_any (p : ByteArray) (i : Nat) (w : World) (hp : p.size ≤ 2000000) (hi : i < p.size) :
    Calls Try.prog 93 #[.string p, .int .i64 i] w fun e w' => Reads p i w e w' := by
  by_cases h0 : M.bz p i = 0
  · exact read_zero p i w hp hi h0
  by_cases h1 : M.bz p i = 1
  · exact read_one p i w hp hi h1
  by_cases h2 : M.bz p i = 2
  · exact read_two p i w hp hi h2
  by_cases h3 : M.bz p i = 3
  · exact read_three p i w hp hi h3
  exact read_more p i w hp hi (by omega)
end Go.Proofs.Ytjfmiomopfjecaa

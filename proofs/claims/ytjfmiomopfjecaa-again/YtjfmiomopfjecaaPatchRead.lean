/- A step of a patch: what it gives, and how it is read. -/
import Derived.Test.YtjfmiomopfjecaaPatchStep
namespace Go.Proofs.Ytjfmiomopfjecaa
open Go.RowKit Go.Lib

def opHead (p : ByteArray) (i : Nat) : Nat := if M.bz p i = 0 then 3 else if M.bz p i = 1 then 2 else if M.bz p i = 2 then 2 else 3
def opAt (p : ByteArray) (i : Nat) : Nat := if M.bz p i = 0 then M.bz p (i + 1) else if M.bz p i = 1 then 0 else if M.bz p i = 2 then 0 else M.bz p (i + 1)
def opOwn (p : ByteArray) (i : Nat) : ByteArray := M.mk (M.opLen p i - opHead p i) fun j => M.bz p (i + opHead p i + j)
def stepV (p : ByteArray) (i : Nat) : Value := .agg #[.int .i64 (M.bz p i), .int .i64 (opAt p i), .int .i64 (M.opCount p i), .string (opOwn p i)]
def stepNo : Value := .agg #[.int .i64 0, .int .i64 0, .int .i64 0, .string ⟨#[]⟩]
theorem ret_step {a b c d : Int} {a' b' c' d' : Int} {t t' : ByteArray} (h1 : a = a') (h2 : b = b') (h3 : c = c') (h4 : t = t') (h5 : d = d') :
    Ending.returned (.tuple #[.agg #[.int .i64 a, .int .i64 b, .int .i64 c, .string t], .int .i64 d, .bool true]) = .returned (.tuple #[.agg #[.int .i64 a', .int .i64 b', .int .i64 c', .string t'], .int .i64 d', .bool true]) := by rw [h1, h2, h3, h4, h5]

/-- what a step that is there and fits gives -/
theorem gives_any (b p : ByteArray) (i : Nat) (w : World) (hb : b.size ≤ 2000000) (hok : M.opOk b p i = true) :
    Calls Try.prog 94 #[stepV p i, .string b] w fun e w' => e = .returned (.string (M.opGives b p i)) ∧ Below w.heap.size w w' := by
  have h3 := M.opOk_what hok
  have b1 := M.bz_lt p (i + 1)
  have b2 := M.bz_lt p (i + 2)
  have hcase : M.bz p i = 0 ∨ M.bz p i = 1 ∨ M.bz p i = 2 ∨ M.bz p i = 3 := by omega
  unfold stepV
  rcases hcase with h0 | h0 | h0 | h0
  · have hf : M.bz p (i + 1) + M.bz p (i + 2) ≤ b.size := by
      simp only [M.opOk, M.opFits, h0, Bool.and_eq_true, decide_true, Bool.true_or, Bool.not_true, Bool.false_or, decide_eq_true_eq] at hok
      exact hok.2
    have e1 : opAt p i = M.bz p (i + 1) := by simp [opAt, h0]
    have e2 : M.opCount p i = M.bz p (i + 2) := by simp [M.opCount, h0]
    have HG : Hid ((M.mk (M.bz p (i + 2)) fun j => M.bz b (M.bz p (i + 1) + j)) = M.opGives b p i) := by
      show _ = M.mk (M.opCount p i) (M.opByte b p i)
      rw [e2]
      exact M.mk_congr fun j _ => by simp [M.opByte, h0]
    rw [e1, e2, h0]
    clear hok h0 e1 e2
    generalize M.opGives b p i = G at *
    generalize opOwn p i = t at *
    generalize M.bz p (i + 1) = x at *
    generalize M.bz p (i + 2) = y at *
    go_enter Try.func94, Try.ntmps94
    go_wp2_with fail
    refine (part_yes b x y _ hb hf).mono ?_
    rintro e w' ⟨rfl, rfl⟩
    rw [HG.out]
    go_wp2
    go_ret
    exact ⟨rfl, (Below.refl _ _).alloc (Nat.le_refl _) _⟩
  · have e2 : M.opCount p i = M.bz p (i + 1) := by simp [M.opCount, h0]
    have e3 : M.opLen p i - opHead p i = M.bz p (i + 1) := by simp [M.opLen, opHead, h0]
    have e4 : opHead p i = 2 := by simp [opHead, h0]
    have HG : Hid (opOwn p i = M.opGives b p i) := by
      show M.mk _ _ = M.mk (M.opCount p i) (M.opByte b p i)
      rw [e2, e3]
      exact M.mk_congr fun j _ => by simp [M.opByte, h0, e4]
    rw [h0]
    clear hok h0 e2 e3 e4
    generalize M.opGives b p i = G at *
    generalize opOwn p i = t at *
    generalize opAt p i = x at *
    generalize M.opCount p i = y at *
    go_enter Try.func94, Try.ntmps94
    go_wp2
    go_ret
    exact ⟨ret_string HG.out, (Below.refl _ _).alloc (Nat.le_refl _) _⟩
  · have e2 : M.opCount p i = M.bz p (i + 1) := by simp [M.opCount, h0]
    have e3 : M.opLen p i - opHead p i = 1 := by simp [M.opLen, opHead, h0]
    have e4 : opHead p i = 2 := by simp [opHead, h0]
    have HG : Hid ((M.mk (M.bz p (i + 1)) fun _ => M.bz p (i + 2)) = M.opGives b p i) := by
      show _ = M.mk (M.opCount p i) (M.opByte b p i)
      rw [e2]
      exact M.mk_congr fun j _ => by simp [M.opByte, h0]
    have e5 : opOwn p i = M.bytesOf [M.bz p (i + 2)] := by
      unfold opOwn
      rw [e3, e4]; rfl
    rw [e2, e5, h0]
    clear hok h0 e2 e3 e4 e5
    generalize M.opGives b p i = G at *
    generalize opAt p i = u at *
    generalize M.bz p (i + 1) = x at *
    generalize M.bz p (i + 2) = y at *
    go_enter Try.func94, Try.ntmps94
    go_wp2_with fail
    refine (repeated_any y x _ (by omega)).mono ?_
    rintro e w' ⟨rfl, hb1⟩
    rw [HG.out]
    have HB : Hid (Below w.heap.size w w') := ((Below.refl _ _).alloc (Nat.le_refl _) _).trans (hb1.mono (by simp))
    clear hb1
    go_wp2
    go_ret
    exact ⟨rfl, unhide HB⟩
  · have hf : M.bz p (i + 1) + M.bz p (i + 2) ≤ b.size := by
      simp only [M.opOk, M.opFits, h0, Bool.and_eq_true, decide_true, Bool.or_true, Bool.not_true, Bool.false_or, decide_eq_true_eq] at hok
      exact hok.2
    have e1 : opAt p i = M.bz p (i + 1) := by simp [opAt, h0]
    have e2 : M.opCount p i = M.bz p (i + 2) := by simp [M.opCount, h0]
    have e3 : M.opLen p i - opHead p i = M.bz p (i + 2) := by simp [M.opLen, opHead, h0]
    have e4 : opHead p i = 3 := by simp [opHead, h0]
    have e5 : opOwn p i = M.mk (M.bz p (i + 2)) fun j => M.bz p (i + 3 + j) := by
      unfold opOwn
      rw [e3, e4]
    have HG : Hid ((M.mk (M.bz p (i + 2)) fun j => (M.bz (M.mk (M.bz p (i + 2)) fun j => M.bz b (M.bz p (i + 1) + j)) j + M.bz (M.mk (M.bz p (i + 2)) fun j => M.bz p (i + 3 + j)) j) % 256) = M.opGives b p i) := by
      show _ = M.mk (M.opCount p i) (M.opByte b p i)
      rw [e2]
      refine M.mk_congr fun j hj => ?_
      rw [M.bz_mk (fun _ _ => M.bz_lt _ _) hj, M.bz_mk (fun _ _ => M.bz_lt _ _) hj]
      simp [M.opByte, h0]
    have z2 := M.mk_size (M.bz p (i + 2)) fun j => M.bz p (i + 3 + j)
    have z1 := M.mk_size (M.bz p (i + 2)) fun j => M.bz b (M.bz p (i + 1) + j)
    rw [e1, e2, e5, h0]
    clear hok h0 e1 e2 e3 e4 e5
    generalize M.opGives b p i = G at *
    generalize (M.mk (M.bz p (i + 2)) fun j => M.bz p (i + 3 + j)) = t at *
    generalize M.bz p (i + 1) = x at *
    generalize M.bz p (i + 2) = y at *
    have Z1 := hide z1
    have Z2 := hide z2
    clear z1 z2
    go_enter Try.func94, Try.ntmps94
    go_wp2_with fail
    refine (part_yes b x y _ hb hf).mono ?_
    rintro e w' ⟨rfl, rfl⟩
    generalize (M.mk y fun j => M.bz b (x + j)) = r at *
    go_wp2_with fail
    refine (added_any r t y _ (unhide Z1) (unhide Z2) (by omega)).mono ?_
    rintro e w' ⟨rfl, hb1⟩
    rw [HG.out]
    have HB : Hid (Below w.heap.size w w') := ((Below.refl _ _).alloc (Nat.le_refl _) _).trans (hb1.mono (by simp))
    clear hb1
    go_wp2
    go_ret
    exact ⟨rfl, unhide HB⟩
end Go.Proofs.Ytjfmiomopfjecaa

/- The document's answer: slotsref.first, slotsref.Patch. -/
import Derived.Test.YtjfmiomopfjecaaPatchStep
import Derived.BigQuiet
namespace Go.Proofs.Ytjfmiomopfjecaa
open Go.RowKit Go.Lib

def firstYes (b p : ByteArray) : Value := .tuple #[.string (M.opGives b p 0), .string (M.suf p (M.opLen p 0)), .bool true]
def firstNo : Value := .tuple #[.string ⟨#[]⟩, .string ⟨#[]⟩, .bool false]
theorem refNumber_nat (s : ByteArray) (i : Nat) (w : World) (hs : s.size ≤ maxLen) :
    Calls Try.prog 42 #[.string s, .int .i64 i] w fun e w' => e = .returned (.int .i64 (refNum s i)) ∧ w = w' := by
  have h := refNumber_any s (i : Int) w hs (by omega)
  rw [Int.toNat_natCast] at h
  exact h
theorem taken_yes_at (s : ByteArray) (k c : Int) (a n : Nat) (w : World) (hs : s.size ≤ 2000000) (h : a + n ≤ s.size) (hk : k = a) (hc : c = n) :
    Calls Try.prog 95 #[.string s, .int .i64 k, .int .i64 c] w fun e w' => e = .returned (.tuple #[.string (M.mk n fun j => M.bz s (a + j)), .bool true]) ∧ w = w' := by
  subst hk hc
  exact taken_yes s a n w hs h
theorem ret_first {a b c d : ByteArray} (h1 : a = b) (h2 : c = d) : Ending.returned (.tuple #[.string a, .string c, .bool true]) = .returned (.tuple #[.string b, .string d, .bool true]) := by rw [h1, h2]

theorem below_drewN' {n : Nat} {w w' : World} (h : Below n w w') (k : Nat) : Below n w (w'.drewN k) := by
  induction k with
  | zero => exact h
  | succ k ih => exact ih.drew
theorem text_cell (W : World) (g y : Nat) (hy : y < 256) (hc : W.cell? ⟨g, 0, none⟩ = some (.int .u8 (y : Int))) :
    (convert 63 9 (.slice (some ⟨g, 0, none⟩) 1 1)).run Try.prog W = .ok (.string (M.bytesOf [y])) W := by
  have hl : (loadCells ⟨g, 0, none⟩ 1).run Try.prog W = .ok ([(y : Int)].map (Value.int .u8)).toArray W := by
    refine run_loadCells_list (P := Try.prog) (w := W) ⟨g, 0, none⟩ [.int .u8 (y : Int)] ?_
    intro j v hj
    match j, hj with
    | 0, hj => simp at hj; subst hj; rw [add_at]; exact hc
  rw [run_convert_bytes_string _ 63 9 5 _ _ _ Try.underlying63 Try.underlying5 Try.underlying9, run_bytesToString _ _ _ _ _ hl]
  have e : ((y : Int)).toNat = y := by omega
  simp [M.bytesOf, e, ByteArray.push]
theorem extract_one (p : ByteArray) (a : Nat) (h : a + 1 ≤ p.size) : p.extract a (a + 1) = M.bytesOf [M.bz p a] := by rw [M.extract_mk p a 1 h]; rfl

theorem first_zero (b p : ByteArray) (w : World) (hp : p.size ≤ 2000000) (hb : b.size ≤ 2000000) (hp0 : 0 < p.size) (h0 : M.bz p 0 = 0) (hok : M.opOk b p 0 = true) :
    Calls Try.prog 61 #[.string b, .string p] w fun e w' => e = .returned (firstYes b p) ∧ Below w.heap.size w w' := by
  have hpm : p.size ≤ maxLen := by unfold maxLen; omega
  have hl : M.opLen p 0 = 3 := by simp [M.opLen, h0]
  have hle := M.opOk_le hok
  rw [hl] at hle
  have hf : M.bz p 1 + M.bz p 2 ≤ b.size := by
    simp only [M.opOk, M.opFits, h0, Bool.and_eq_true, decide_true, Bool.true_or, Bool.not_true, Bool.false_or, decide_eq_true_eq] at hok
    exact hok.2
  have HG : Hid ((M.mk (M.bz p 2) fun j => M.bz b (M.bz p 1 + j)) = M.opGives b p 0) := by
    show _ = M.mk (M.opCount p 0) (M.opByte b p 0)
    have e2 : M.opCount p 0 = M.bz p 2 := by simp [M.opCount, h0]
    rw [e2]
    exact M.mk_congr fun j _ => by simp [M.opByte, h0]
  have HS : Hid (p.extract (3) p.size = M.suf p (M.opLen p 0)) := by rw [hl]; rfl
  have b1 := M.bz_lt p 1
  have b2 := M.bz_lt p 2
  have n0 := refNum_in (s := p) (i := 0) (by omega)
  have n1 := refNum_in (s := p) (i := 1) (by omega)
  have n2 := refNum_in (s := p) (i := 2) (by omega)
  clear hok
  go_enter Try.func61, Try.ntmps61
  go_wp2_with fail
  refine (refNumber_nat p 1 _ hpm).mono ?_
  rintro e w' ⟨rfl, rfl⟩
  rw [n1]
  go_wp2_with fail
  refine (refNumber_nat p 2 _ hpm).mono ?_
  rintro e w' ⟨rfl, rfl⟩
  rw [n2]
  go_wp2_with fail
  refine (refNumber_nat p 0 _ hpm).mono ?_
  rintro e w' ⟨rfl, rfl⟩
  rw [n0, h0]
  clear n0 n1 n2 h0 hl
  generalize M.bz p 1 = x at *
  generalize M.bz p 2 = y at *
  go_wp2_with fail
  refine (taken_yes b x y _ hb hf).mono ?_
  rintro e w' ⟨rfl, rfl⟩
  generalize (M.mk y fun j => M.bz b (x + j)) = t at *
  have hle' : (3 : Int) ≤ (p.size : Int) := by omega
  go_wp2_with fail
  go_quiet (fail)
  go_wp2
  refine bodyPost_ret (v := .tuple #[.string _, .string _, .bool true]) (by simp [results, Try.results61, go_sem]; try rfl) rfl ⟨ret_first HG.out HS.out, below_drewN' (Below.refl _ _) _⟩
theorem first_one (b p : ByteArray) (w : World) (hp : p.size ≤ 2000000) (_hb : b.size ≤ 2000000) (hp0 : 0 < p.size) (h0 : M.bz p 0 = 1) (hok : M.opOk b p 0 = true) :
    Calls Try.prog 61 #[.string b, .string p] w fun e w' => e = .returned (firstYes b p) ∧ Below w.heap.size w w' := by
  have hpm : p.size ≤ maxLen := by unfold maxLen; omega
  have hl : M.opLen p 0 = 2 + M.bz p 1 := by simp [M.opLen, h0]
  have hle := M.opOk_le hok
  rw [hl] at hle
  have HG : Hid ((M.mk (M.bz p 1) fun j => M.bz p (2 + j)) = M.opGives b p 0) := by
    show _ = M.mk (M.opCount p 0) (M.opByte b p 0)
    have e2 : M.opCount p 0 = M.bz p 1 := by simp [M.opCount, h0]
    rw [e2]
    exact M.mk_congr fun j _ => by simp [M.opByte, h0]
  have HS : Hid (p.extract (2 + M.bz p 1) p.size = M.suf p (M.opLen p 0)) := by rw [hl]; rfl
  have b1 := M.bz_lt p 1
  have b2 := M.bz_lt p 2
  have n0 := refNum_in (s := p) (i := 0) (by omega)
  have n1 := refNum_in (s := p) (i := 1) (by omega)
  have r2 := refNum_bd p 2
  clear hok
  go_enter Try.func61, Try.ntmps61
  go_wp2_with fail
  refine (refNumber_nat p 1 _ hpm).mono ?_
  rintro e w' ⟨rfl, rfl⟩
  rw [n1]
  go_wp2_with fail
  refine (refNumber_nat p 2 _ hpm).mono ?_
  rintro e w' ⟨rfl, rfl⟩
  generalize refNum p 2 = y at *
  go_wp2_with fail
  refine (refNumber_nat p 0 _ hpm).mono ?_
  rintro e w' ⟨rfl, rfl⟩
  rw [n0, h0]
  clear n0 n1 h0 hl
  generalize M.bz p 1 = x at *
  go_wp2_with fail
  refine (taken_yes_at p _ _ 2 x _ hp (by omega) rfl rfl).mono ?_
  rintro e w' ⟨rfl, rfl⟩
  generalize (M.mk x fun j => M.bz p (2 + j)) = t at *
  have hle' : (2 : Int) + (x : Int) ≤ (p.size : Int) := by omega
  have hw1 : IntKind.i64.wrap ((2 : Int) + (x : Int)) = (2 : Int) + (x : Int) := IntWalk.i64_in _ ⟨by omega, by omega⟩
  have hn1 : ((2 : Int) + (x : Int)).toNat = 2 + x := by omega
  have hn2 : (0 : Int) ≤ (2 : Int) + (x : Int) := by omega
  go_wp2_with fail
  go_quiet (fail)
  go_wp2
  refine bodyPost_ret (v := .tuple #[.string _, .string _, .bool true]) (by simp [results, Try.results61, go_sem]; try rfl) rfl ⟨ret_first HG.out HS.out, below_drewN' (Below.refl _ _) _⟩
theorem first_two (b p : ByteArray) (w : World) (hp : p.size ≤ 2000000) (_hb : b.size ≤ 2000000) (hp0 : 0 < p.size) (h0 : M.bz p 0 = 2) (hok : M.opOk b p 0 = true) :
    Calls Try.prog 61 #[.string b, .string p] w fun e w' => e = .returned (firstYes b p) ∧ Below w.heap.size w w' := by
  have hpm : p.size ≤ maxLen := by unfold maxLen; omega
  have hl : M.opLen p 0 = 3 := by simp [M.opLen, h0]
  have hle := M.opOk_le hok
  rw [hl] at hle
  have HG : Hid ((M.mk (M.bz p 1) fun _ => M.bz p 2) = M.opGives b p 0) := by
    show _ = M.mk (M.opCount p 0) (M.opByte b p 0)
    have e2 : M.opCount p 0 = M.bz p 1 := by simp [M.opCount, h0]
    rw [e2]
    exact M.mk_congr fun j _ => by simp [M.opByte, h0]
  have HS : Hid (p.extract (3) p.size = M.suf p (M.opLen p 0)) := by rw [hl]; rfl
  have b1 := M.bz_lt p 1
  have b2 := M.bz_lt p 2
  have n0 := refNum_in (s := p) (i := 0) (by omega)
  have n1 := refNum_in (s := p) (i := 1) (by omega)
  have n2 := refNum_in (s := p) (i := 2) (by omega)
  clear hok
  go_enter Try.func61, Try.ntmps61
  go_wp2_with fail
  refine (refNumber_nat p 1 _ hpm).mono ?_
  rintro e w' ⟨rfl, rfl⟩
  rw [n1]
  go_wp2_with fail
  refine (refNumber_nat p 2 _ hpm).mono ?_
  rintro e w' ⟨rfl, rfl⟩
  rw [n2]
  go_wp2_with fail
  refine (refNumber_nat p 0 _ hpm).mono ?_
  rintro e w' ⟨rfl, rfl⟩
  rw [n0, h0]
  clear n0 n1 n2 h0 hl
  generalize M.bz p 1 = x at *
  have HX := hide (extract_one p 2 (by omega))
  have HX1 : Hid ((p.extract 2 3).size = 1) := by rw [ByteArray.size_extract]; show _ = _; omega
  have HST := hide (fun k => M.mk_succ k fun _ => M.bz p 2)
  have hle' : (3 : Int) ≤ (p.size : Int) := by omega
  go_wp2_with fail
  go_loopw [13, 14] (fun v i wr => ∃ (k : Nat) (t : ByteArray), k ≤ x ∧ i = .int .i64 k ∧ v = .string t ∧ Hid (t = M.mk k fun _ => M.bz p 2) ∧ t.size ≤ k ∧ wr = w) (fun _ i _ => x - (intOf i).toNat)
  case atStart => exact ⟨0, ⟨#[]⟩, by omega, rfl, rfl, rfl, by show 0 ≤ _; omega, rfl⟩
  case round =>
    obtain ⟨k, t, hk, rfl, rfl, ht, htz, rfl⟩ := hrel
    by_cases hlt : k < x
    · have hx1 : (p.extract 2 3).size ≤ 1 := by rw [HX1.out]; exact Nat.le_refl _
      have HE : Hid (t ++ p.extract 2 3 = M.mk (k + 1) fun _ => M.bz p 2) := by rw [HST.out k, ← ht.out, HX.out]; rfl
      have HZ : Hid ((t ++ p.extract 2 3).size ≤ k + 1) := by rw [HE.out, M.mk_size]; exact Nat.le_refl _
      go_wp2
      go_roundw
      case rel => exact ⟨k + 1, t ++ p.extract 2 3, by omega, by go_num, rfl, HE, unhide HZ, by first | rfl | trivial⟩
      case measure => simp [intOf]; omega
    · have hkx : k = x := by omega
      subst hkx
      go_wp2_with fail
      go_quiet (fail)
      go_wp2
      refine bodyPost_ret (v := .tuple #[.string _, .string _, .bool true]) (by simp [results, Try.results61, go_sem]; try rfl) rfl ⟨ret_first (by rw [ht.out]; exact HG.out) HS.out, below_drewN' (Below.refl _ _) _⟩
set_option maxRecDepth 10000 in
theorem first_three (b p : ByteArray) (w : World) (hp : p.size ≤ 2000000) (hb : b.size ≤ 2000000) (hp0 : 0 < p.size) (h0 : M.bz p 0 = 3) (hok : M.opOk b p 0 = true) :
    Calls Try.prog 61 #[.string b, .string p] w fun e w' => e = .returned (firstYes b p) ∧ Below w.heap.size w w' := by
  have hpm : p.size ≤ maxLen := by unfold maxLen; omega
  have hl : M.opLen p 0 = 3 + M.bz p 2 := by simp [M.opLen, h0]
  have hle := M.opOk_le hok
  rw [hl] at hle
  have hf : M.bz p 1 + M.bz p 2 ≤ b.size := by
    simp only [M.opOk, M.opFits, h0, Bool.and_eq_true, decide_true, Bool.or_true, Bool.not_true, Bool.false_or, decide_eq_true_eq] at hok
    exact hok.2
  have HG : Hid ((M.mk (M.bz p 2) fun j => (M.bz (M.mk (M.bz p 2) fun j => M.bz b (M.bz p 1 + j)) j + M.bz (M.mk (M.bz p 2) fun j => M.bz p (3 + j)) j) % 256) = M.opGives b p 0) := by
    show _ = M.mk (M.opCount p 0) (M.opByte b p 0)
    have e2 : M.opCount p 0 = M.bz p 2 := by simp [M.opCount, h0]
    rw [e2]
    refine M.mk_congr fun j hj => ?_
    rw [M.bz_mk (fun _ _ => M.bz_lt _ _) hj, M.bz_mk (fun _ _ => M.bz_lt _ _) hj]
    simp [M.opByte, h0]
  have HS : Hid (p.extract (3 + M.bz p 2) p.size = M.suf p (M.opLen p 0)) := by rw [hl]; rfl
  have b1 := M.bz_lt p 1
  have b2 := M.bz_lt p 2
  have n0 := refNum_in (s := p) (i := 0) (by omega)
  have n1 := refNum_in (s := p) (i := 1) (by omega)
  have n2 := refNum_in (s := p) (i := 2) (by omega)
  clear hok
  go_enter Try.func61, Try.ntmps61
  go_wp2_with fail
  refine (refNumber_nat p 1 _ hpm).mono ?_
  rintro e w' ⟨rfl, rfl⟩
  rw [n1]
  go_wp2_with fail
  refine (refNumber_nat p 2 _ hpm).mono ?_
  rintro e w' ⟨rfl, rfl⟩
  rw [n2]
  go_wp2_with fail
  refine (refNumber_nat p 0 _ hpm).mono ?_
  rintro e w' ⟨rfl, rfl⟩
  rw [n0, h0]
  clear n0 n1 n2 h0 hl
  generalize M.bz p 1 = x at *
  generalize M.bz p 2 = y at *
  have Z1 := hide (M.mk_size y fun j => M.bz p (3 + j))
  have Z2 := hide (M.mk_size y fun j => M.bz b (x + j))
  go_wp2_with fail
  refine (taken_yes b x y _ hb hf).mono ?_
  rintro e w' ⟨rfl, rfl⟩
  go_wp2_with fail
  refine (taken_yes_at p _ _ 3 y _ hp (by omega) rfl rfl).mono ?_
  rintro e w' ⟨rfl, rfl⟩
  generalize (M.mk y fun j => M.bz b (x + j)) = t at *
  generalize (M.mk y fun j => M.bz p (3 + j)) = u at *
  have z1 : y ≤ t.size := by rw [Z2.out]; exact Nat.le_refl _
  have z2 : y ≤ u.size := by rw [Z1.out]; exact Nat.le_refl _
  have hle' : (3 : Int) + (y : Int) ≤ (p.size : Int) := by omega
  have hw1 : IntKind.i64.wrap ((3 : Int) + (y : Int)) = (3 : Int) + (y : Int) := IntWalk.i64_in _ ⟨by omega, by omega⟩
  have hn1 : ((3 : Int) + (y : Int)).toNat = 3 + y := by omega
  have hn2 : (0 : Int) ≤ (3 : Int) + (y : Int) := by omega
  go_wp2_with fail
  go_loopw [19, 20] (fun v i wr => ∃ (k : Nat) (o : ByteArray), k ≤ y ∧ i = .int .i64 k ∧ v = .string o ∧ Hid (o = M.mk k fun j => (M.bz t j + M.bz u j) % 256) ∧ o.size ≤ k ∧ Below w.heap.size w wr) (fun _ i _ => y - (intOf i).toNat)
  case atStart => exact ⟨0, ⟨#[]⟩, by omega, rfl, rfl, rfl, by show 0 ≤ _; omega, Below.refl _ _⟩
  case round =>
    obtain ⟨k, o, hk, rfl, rfl, ho, hoz, hbel⟩ := hrel
    have hsz := hbel.size
    have HB := hide hbel
    clear hbel
    by_cases hlt : k < y
    · have p0 : k < t.size := by omega
      have p1 : k < u.size := by omega
      have HE : Hid (o ++ M.bytesOf [((t[k]'p0).toNat + (u[k]'p1).toNat) % 256] = M.mk (k + 1) fun j => (M.bz t j + M.bz u j) % 256) := by
        rw [M.mk_succ, ← ho.out, M.bz_at t k p0, M.bz_at u k p1]; rfl
      have HZ : Hid ((o ++ M.bytesOf [((t[k]'p0).toNat + (u[k]'p1).toNat) % 256]).size ≤ k + 1) := by rw [HE.out, M.mk_size]; exact Nat.le_refl _
      have b3 : (t[k]'p0).toNat < 256 := UInt8.toNat_lt _
      have b4 : (u[k]'p1).toNat < 256 := UInt8.toNat_lt _
      have i0 : (k : Int) < (t.size : Int) := by omega
      have i1 : (k : Int) < (u.size : Int) := by omega
      have w0 : IntKind.i64.wrap ((t[k]'p0).toNat : Int) = ((t[k]'p0).toNat : Int) := IntWalk.i64_in _ ⟨by omega, by omega⟩
      have w1 : IntKind.i64.wrap ((u[k]'p1).toNat : Int) = ((u[k]'p1).toNat : Int) := IntWalk.i64_in _ ⟨by omega, by omega⟩
      have w2 : IntKind.i64.wrap (((t[k]'p0).toNat : Int) + ((u[k]'p1).toNat : Int)) = ((t[k]'p0).toNat : Int) + ((u[k]'p1).toNat : Int) := IntWalk.i64_in _ ⟨by omega, by omega⟩
      have htm : (((t[k]'p0).toNat : Int) + ((u[k]'p1).toNat : Int)).tmod 256 = (((((t[k]'p0).toNat + (u[k]'p1).toNat) % 256 : Nat)) : Int) := by rw [Int.tmod_eq_emod_of_nonneg (by omega)]; omega
      have hlt2 : ((t[k]'p0).toNat + (u[k]'p1).toNat) % 256 < 256 := Nat.mod_lt _ (by omega)
      obtain ⟨r, hr⟩ : ∃ r, r = ((t[k]'p0).toNat + (u[k]'p1).toNat) % 256 := ⟨_, rfl⟩
      rw [← hr] at htm hlt2 HE HZ
      clear hr
      have hw8 : IntKind.u8.wrap (r : Int) = (r : Int) := IntWalk.u8_in _ ⟨by omega, by omega⟩
      have hcv := text_cell ((wr.alloc (.cells #[.int .u8 (r : Int)] 5)).drew) wr.heap.size r hlt2 (by simp)
      have hTz : (M.bytesOf [r]).size ≤ 1 := Nat.le_refl _
      generalize M.bytesOf [r] = T at *
      have hpl : ¬ 9223372036854775807 < o.size + T.size := by omega
      have hpl2 : ¬ (9223372036854775807 : Int) < (o.size : Int) + (T.size : Int) := by omega
      go_wp2_with fail
      go_region
      all_goals
        have HB1 : Hid (Below w.heap.size w ((wr.alloc (.cells #[.int .u8 (r : Int)] 5)).drew)) := ((unhide HB).alloc hsz _).drew
        go_wp2
        go_roundw
        case rel => exact ⟨k + 1, o ++ T, by omega, by go_num, rfl, HE, unhide HZ, unhide HB1⟩
        case measure => simp [intOf]; omega
    · have hkx : k = y := by omega
      subst hkx
      go_wp2_with fail
      go_quiet (fail)
      go_wp2
      refine bodyPost_ret (v := .tuple #[.string _, .string _, .bool true]) (by simp [results, Try.results61, go_sem]; try rfl) rfl ⟨ret_first (by rw [ho.out]; exact HG.out) HS.out, below_drewN' (unhide HB) _⟩
end Go.Proofs.Ytjfmiomopfjecaa

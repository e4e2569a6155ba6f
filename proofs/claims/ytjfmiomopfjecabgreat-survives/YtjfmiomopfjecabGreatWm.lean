/- Texts laid together: PatchRef, PatchRefTwo, PatchRun, DiffWalk, KeepMade, KeepAskMath, KeepAsk1. -/
import Derived.Test.YtjfmiomopfjecabGreatWe
import Derived.BigQuiet
import Derived.Test.YtjfmiomopfjecabGreatWh
import Derived.Test.YtjfmiomopfjecabGreatWl
import Derived.Test.YtjfmiomopfjecabGreatWk
import Derived.Test.YtjfmiomopfjecabGreatWa
import Derived.Test.YtjfmiomopfjecabGreatWb
import Derived.Test.YtjfmiomopfjecabGreatWc
import Derived.Test.YtjfmiomopfjecabGreatWd
import Derived.Test.YtjfmiomopfjecabGreatWf
import Derived.Test.YtjfmiomopfjecabGreatWg
import Derived.Test.YtjfmiomopfjecabGreatWi
import Derived.Test.YtjfmiomopfjecabGreatWj
/- The document's answer: slotsref.first, slotsref.Patch. -/
namespace Go.Proofs.YtjfmiomopfjecabGreat
open Go.RowKit Go.Lib

def firstYes (b p : ByteArray) : Value := .tuple #[.string (M.opGives b p 0), .string (M.suf p (M.opLen p 0)), .bool true]
def firstNo : Value := .tuple #[.string ⟨#[]⟩, .string ⟨#[]⟩, .bool false]
theorem refNumber_nat (s : ByteArray) (i : Nat) (w : World) (hs : s.size ≤ maxLen) :
    Calls Tryz.prog 117 #[.string s, .int .i64 i] w fun e w' => e = .returned (.int .i64 (refNum s i)) ∧ w = w' := by
  have h := refNumber_any s (i : Int) w hs (by omega)
  rw [Int.toNat_natCast] at h
  exact h
theorem taken_yes_at (s : ByteArray) (k c : Int) (a n : Nat) (w : World) (hs : s.size ≤ 2000000) (h : a + n ≤ s.size) (hk : k = a) (hc : c = n) :
    Calls Tryz.prog 203 #[.string s, .int .i64 k, .int .i64 c] w fun e w' => e = .returned (.tuple #[.string (M.mk n fun j => M.bz s (a + j)), .bool true]) ∧ w = w' := by
  subst hk hc
  exact taken_yes s a n w hs h
theorem ret_first {a b c d : ByteArray} (h1 : a = b) (h2 : c = d) : Ending.returned (.tuple #[.string a, .string c, .bool true]) = .returned (.tuple #[.string b, .string d, .bool true]) := by rw [h1, h2]

theorem below_drewN' {n : Nat} {w w' : World} (h : Below n w w') (k : Nat) : Below n w (w'.drewN k) := by
  induction k with
  | zero => exact h
  | succ k ih => exact ih.drew
theorem text_cell (W : World) (g y : Nat) (hy : y < 256) (hc : W.cell? ⟨g, 0, none⟩ = some (.int .u8 (y : Int))) :
    (convert 79 9 (.slice (some ⟨g, 0, none⟩) 1 1)).run Tryz.prog W = .ok (.string (M.bytesOf [y])) W := by
  have hl : (loadCells ⟨g, 0, none⟩ 1).run Tryz.prog W = .ok ([(y : Int)].map (Value.int .u8)).toArray W := by
    refine run_loadCells_list (P := Tryz.prog) (w := W) ⟨g, 0, none⟩ [.int .u8 (y : Int)] ?_
    intro j v hj
    match j, hj with
    | 0, hj => simp at hj; subst hj; rw [add_at]; exact hc
  rw [run_convert_bytes_string _ 79 9 5 _ _ _ Tryz.underlying79 Tryz.underlying5 Tryz.underlying9, run_bytesToString _ _ _ _ _ hl]
  have e : ((y : Int)).toNat = y := by omega
  simp [M.bytesOf, e, ByteArray.push]
theorem extract_one (p : ByteArray) (a : Nat) (h : a + 1 ≤ p.size) : p.extract a (a + 1) = M.bytesOf [M.bz p a] := by rw [M.extract_mk p a 1 h]; rfl

theorem first_zero (b p : ByteArray) (w : World) (hp : p.size ≤ 2000000) (hb : b.size ≤ 2000000) (hp0 : 0 < p.size) (h0 : M.bz p 0 = 0) (hok : M.opOk b p 0 = true) :
    Calls Tryz.prog 200 #[.string b, .string p] w fun e w' => e = .returned (firstYes b p) ∧ Below w.heap.size w w' := by
  have hpm : p.size ≤ maxLen := by unfold maxLen; omega
  have hl : M.opLen p 0 = 3 := by simp [M.opLen, h0]
  have hle := M.opOk_le hok
  rw [hl] at hle
  have hf : M.bz p 1 + M.bz p 2 ≤ b.size := by
    simp only [M.opOk, M.opFits, h0, Bool.and_eq_true, decide_true, Bool.true_or, Bool.not_true, Bool.false_or, decide_eq_true_eq] at hok
    exact hok.2
  have HG : Hid ((M.mk (M.bz p 2) fun j => M.bz b (M.bz p 1 + j)) = M.opGives b p 0) := by
    show _ = M.mk (M.opCount p 0) (M.opByte b p 0)
    have e2 : M.opCount p 0 = M.bz p 2 := by simp [M.opCount, h0]
    rw [e2]
    exact M.mk_congr fun j _ => by simp [M.opByte, h0]
  have HS : Hid (p.extract (3) p.size = M.suf p (M.opLen p 0)) := by rw [hl]; rfl
  have b1 := M.bz_lt p 1
  have b2 := M.bz_lt p 2
  have n0 := refNum_in (s := p) (i := 0) (by omega)
  have n1 := refNum_in (s := p) (i := 1) (by omega)
  have n2 := refNum_in (s := p) (i := 2) (by omega)
  clear hok
  go_enter Tryz.func200, Tryz.ntmps200
  go_wp2_with fail
  refine (refNumber_nat p 1 _ hpm).mono ?_
  rintro e w' ⟨rfl, rfl⟩
  rw [n1]
  go_wp2_with fail
  refine (refNumber_nat p 2 _ hpm).mono ?_
  rintro e w' ⟨rfl, rfl⟩
  rw [n2]
  go_wp2_with fail
  refine (refNumber_nat p 0 _ hpm).mono ?_
  rintro e w' ⟨rfl, rfl⟩
  rw [n0, h0]
  clear n0 n1 n2 h0 hl
  generalize M.bz p 1 = x at *
  generalize M.bz p 2 = y at *
  go_wp2_with fail
  refine (taken_yes b x y _ hb hf).mono ?_
  rintro e w' ⟨rfl, rfl⟩
  generalize (M.mk y fun j => M.bz b (x + j)) = t at *
  have hle' : (3 : Int) ≤ (p.size : Int) := by omega
  go_wp2_with fail
  go_quiet (fail)
  go_wp2
  refine bodyPost_ret (v := .tuple #[.string _, .string _, .bool true]) (by simp [results, Tryz.results200, go_sem]; try rfl) rfl ⟨ret_first HG.out HS.out, below_drewN' (Below.refl _ _) _⟩
theorem first_one (b p : ByteArray) (w : World) (hp : p.size ≤ 2000000) (_hb : b.size ≤ 2000000) (hp0 : 0 < p.size) (h0 : M.bz p 0 = 1) (hok : M.opOk b p 0 = true) :
    Calls Tryz.prog 200 #[.string b, .string p] w fun e w' => e = .returned (firstYes b p) ∧ Below w.heap.size w w' := by
  have hpm : p.size ≤ maxLen := by unfold maxLen; omega
  have hl : M.opLen p 0 = 2 + M.bz p 1 := by simp [M.opLen, h0]
  have hle := M.opOk_le hok
  rw [hl] at hle
  have HG : Hid ((M.mk (M.bz p 1) fun j => M.bz p (2 + j)) = M.opGives b p 0) := by
    show _ = M.mk (M.opCount p 0) (M.opByte b p 0)
    have e2 : M.opCount p 0 = M.bz p 1 := by simp [M.opCount, h0]
    rw [e2]
    exact M.mk_congr fun j _ => by simp [M.opByte, h0]
  have HS : Hid (p.extract (2 + M.bz p 1) p.size = M.suf p (M.opLen p 0)) := by rw [hl]; rfl
  have b1 := M.bz_lt p 1
  have b2 := M.bz_lt p 2
  have n0 := refNum_in (s := p) (i := 0) (by omega)
  have n1 := refNum_in (s := p) (i := 1) (by omega)
  have r2 := refNum_bd p 2
  clear hok
  go_enter Tryz.func200, Tryz.ntmps200
  go_wp2_with fail
  refine (refNumber_nat p 1 _ hpm).mono ?_
  rintro e w' ⟨rfl, rfl⟩
  rw [n1]
  go_wp2_with fail
  refine (refNumber_nat p 2 _ hpm).mono ?_
  rintro e w' ⟨rfl, rfl⟩
  generalize refNum p 2 = y at *
  go_wp2_with fail
  refine (refNumber_nat p 0 _ hpm).mono ?_
  rintro e w' ⟨rfl, rfl⟩
  rw [n0, h0]
  clear n0 n1 h0 hl
  generalize M.bz p 1 = x at *
  go_wp2_with fail
  refine (taken_yes_at p _ _ 2 x _ hp (by omega) rfl rfl).mono ?_
  rintro e w' ⟨rfl, rfl⟩
  generalize (M.mk x fun j => M.bz p (2 + j)) = t at *
  have hle' : (2 : Int) + (x : Int) ≤ (p.size : Int) := by omega
  have hw1 : IntKind.i64.wrap ((2 : Int) + (x : Int)) = (2 : Int) + (x : Int) := IntWalk.i64_in _ ⟨by omega, by omega⟩
  have hn1 : ((2 : Int) + (x : Int)).toNat = 2 + x := by omega
  have hn2 : (0 : Int) ≤ (2 : Int) + (x : Int) := by omega
  go_wp2_with fail
  go_quiet (fail)
  go_wp2
  refine bodyPost_ret (v := .tuple #[.string _, .string _, .bool true]) (by simp [results, Tryz.results200, go_sem]; try rfl) rfl ⟨ret_first HG.out HS.out, below_drewN' (Below.refl _ _) _⟩
theorem first_two (b p : ByteArray) (w : World) (hp : p.size ≤ 2000000) (_hb : b.size ≤ 2000000) (hp0 : 0 < p.size) (h0 : M.bz p 0 = 2) (hok : M.opOk b p 0 = true) :
    Calls Tryz.prog 200 #[.string b, .string p] w fun e w' => e = .returned (firstYes b p) ∧ Below w.heap.size w w' := by
  have hpm : p.size ≤ maxLen := by unfold maxLen; omega
  have hl : M.opLen p 0 = 3 := by simp [M.opLen, h0]
  have hle := M.opOk_le hok
  rw [hl] at hle
  have HG : Hid ((M.mk (M.bz p 1) fun _ => M.bz p 2) = M.opGives b p 0) := by
    show _ = M.mk (M.opCount p 0) (M.opByte b p 0)
    have e2 : M.opCount p 0 = M.bz p 1 := by simp [M.opCount, h0]
    rw [e2]
    exact M.mk_congr fun j _ => by simp [M.opByte, h0]
  have HS : Hid (p.extract (3) p.size = M.suf p (M.opLen p 0)) := by rw [hl]; rfl
  have b1 := M.bz_lt p 1
  have b2 := M.bz_lt p 2
  have n0 := refNum_in (s := p) (i := 0) (by omega)
  have n1 := refNum_in (s := p) (i := 1) (by omega)
  have n2 := refNum_in (s := p) (i := 2) (by omega)
  clear hok
  go_enter Tryz.func200, Tryz.ntmps200
  go_wp2_with fail
  refine (refNumber_nat p 1 _ hpm).mono ?_
  rintro e w' ⟨rfl, rfl⟩
  rw [n1]
  go_wp2_with fail
  refine (refNumber_nat p 2 _ hpm).mono ?_
  rintro e w' ⟨rfl, rfl⟩
  rw [n2]
  go_wp2_with fail
  refine (refNumber_nat p 0 _ hpm).mono ?_
  rintro e w' ⟨rfl, rfl⟩
  rw [n0, h0]
  clear n0 n1 n2 h0 hl
  generalize M.bz p 1 = x at *
  have HX := hide (extract_one p 2 (by omega))
  have HX1 : Hid ((p.extract 2 3).size = 1) := by rw [ByteArray.size_extract]; show _ = _; omega
  have HST := hide (fun k => M.mk_succ k fun _ => M.bz p 2)
  have hle' : (3 : Int) ≤ (p.size : Int) := by omega
  go_wp2_with fail
  go_loopw [13, 14] (fun v i wr => ∃ (k : Nat) (t : ByteArray), k ≤ x ∧ i = .int .i64 k ∧ v = .string t ∧ Hid (t = M.mk k fun _ => M.bz p 2) ∧ t.size ≤ k ∧ wr = w) (fun _ i _ => x - (intOf i).toNat)
  case atStart => exact ⟨0, ⟨#[]⟩, by omega, rfl, rfl, rfl, by show 0 ≤ _; omega, rfl⟩
  case round =>
    obtain ⟨k, t, hk, rfl, rfl, ht, htz, rfl⟩ := hrel
    by_cases hlt : k < x
    · have hx1 : (p.extract 2 3).size ≤ 1 := by rw [HX1.out]; exact Nat.le_refl _
      have HE : Hid (t ++ p.extract 2 3 = M.mk (k + 1) fun _ => M.bz p 2) := by rw [HST.out k, ← ht.out, HX.out]; rfl
      have HZ : Hid ((t ++ p.extract 2 3).size ≤ k + 1) := by rw [HE.out, M.mk_size]; exact Nat.le_refl _
      go_wp2
      go_roundw
      case rel => exact ⟨k + 1, t ++ p.extract 2 3, by omega, by go_num, rfl, HE, unhide HZ, by first | rfl | trivial⟩
      case measure => simp [intOf]; omega
    · have hkx : k = x := by omega
      subst hkx
      go_wp2_with fail
      go_quiet (fail)
      go_wp2
      refine bodyPost_ret (v := .tuple #[.string _, .string _, .bool true]) (by simp [results, Tryz.results200, go_sem]; try rfl) rfl ⟨ret_first (by rw [ht.out]; exact HG.out) HS.out, below_drewN' (Below.refl _ _) _⟩
set_option maxRecDepth 10000 in
theorem first_three (b p : ByteArray) (w : World) (hp : p.size ≤ 2000000) (hb : b.size ≤ 2000000) (hp0 : 0 < p.size) (h0 : M.bz p 0 = 3) (hok : M.opOk b p 0 = true) :
    Calls Tryz.prog 200 #[.string b, .string p] w fun e w' => e = .returned (firstYes b p) ∧ Below w.heap.size w w' := by
  have hpm : p.size ≤ maxLen := by unfold maxLen; omega
  have hl : M.opLen p 0 = 3 + M.bz p 2 := by simp [M.opLen, h0]
  have hle := M.opOk_le hok
  rw [hl] at hle
  have hf : M.bz p 1 + M.bz p 2 ≤ b.size := by
    simp only [M.opOk, M.opFits, h0, Bool.and_eq_true, decide_true, Bool.or_true, Bool.not_true, Bool.false_or, decide_eq_true_eq] at hok
    exact hok.2
  have HG : Hid ((M.mk (M.bz p 2) fun j => (M.bz (M.mk (M.bz p 2) fun j => M.bz b (M.bz p 1 + j)) j + M.bz (M.mk (M.bz p 2) fun j => M.bz p (3 + j)) j) % 256) = M.opGives b p 0) := by
    show _ = M.mk (M.opCount p 0) (M.opByte b p 0)
    have e2 : M.opCount p 0 = M.bz p 2 := by simp [M.opCount, h0]
    rw [e2]
    refine M.mk_congr fun j hj => ?_
    rw [M.bz_mk (fun _ _ => M.bz_lt _ _) hj, M.bz_mk (fun _ _ => M.bz_lt _ _) hj]
    simp [M.opByte, h0]
  have HS : Hid (p.extract (3 + M.bz p 2) p.size = M.suf p (M.opLen p 0)) := by rw [hl]; rfl
  have b1 := M.bz_lt p 1
  have b2 := M.bz_lt p 2
  have n0 := refNum_in (s := p) (i := 0) (by omega)
  have n1 := refNum_in (s := p) (i := 1) (by omega)
  have n2 := refNum_in (s := p) (i := 2) (by omega)
  clear hok
  go_enter Tryz.func200, Tryz.ntmps200
  go_wp2_with fail
  refine (refNumber_nat p 1 _ hpm).mono ?_
  rintro e w' ⟨rfl, rfl⟩
  rw [n1]
  go_wp2_with fail
  refine (refNumber_nat p 2 _ hpm).mono ?_
  rintro e w' ⟨rfl, rfl⟩
  rw [n2]
  go_wp2_with fail
  refine (refNumber_nat p 0 _ hpm).mono ?_
  rintro e w' ⟨rfl, rfl⟩
  rw [n0, h0]
  clear n0 n1 n2 h0 hl
  generalize M.bz p 1 = x at *
  generalize M.bz p 2 = y at *
  have Z1 := hide (M.mk_size y fun j => M.bz p (3 + j))
  have Z2 := hide (M.mk_size y fun j => M.bz b (x + j))
  go_wp2_with fail
  refine (taken_yes b x y _ hb hf).mono ?_
  rintro e w' ⟨rfl, rfl⟩
  go_wp2_with fail
  refine (taken_yes_at p _ _ 3 y _ hp (by omega) rfl rfl).mono ?_
  rintro e w' ⟨rfl, rfl⟩
  generalize (M.mk y fun j => M.bz b (x + j)) = t at *
  generalize (M.mk y fun j => M.bz p (3 + j)) = u at *
  have z1 : y ≤ t.size := by rw [Z2.out]; exact Nat.le_refl _
  have z2 : y ≤ u.size := by rw [Z1.out]; exact Nat.le_refl _
  have hle' : (3 : Int) + (y : Int) ≤ (p.size : Int) := by omega
  have hw1 : IntKind.i64.wrap ((3 : Int) + (y : Int)) = (3 : Int) + (y : Int) := IntWalk.i64_in _ ⟨by omega, by omega⟩
  have hn1 : ((3 : Int) + (y : Int)).toNat = 3 + y := by omega
  have hn2 : (0 : Int) ≤ (3 : Int) + (y : Int) := by omega
  go_wp2_with fail
  go_loopw [19, 20] (fun v i wr => ∃ (k : Nat) (o : ByteArray), k ≤ y ∧ i = .int .i64 k ∧ v = .string o ∧ Hid (o = M.mk k fun j => (M.bz t j + M.bz u j) % 256) ∧ o.size ≤ k ∧ Below w.heap.size w wr) (fun _ i _ => y - (intOf i).toNat)
  case atStart => exact ⟨0, ⟨#[]⟩, by omega, rfl, rfl, rfl, by show 0 ≤ _; omega, Below.refl _ _⟩
  case round =>
    obtain ⟨k, o, hk, rfl, rfl, ho, hoz, hbel⟩ := hrel
    have hsz := hbel.size
    have HB := hide hbel
    clear hbel
    by_cases hlt : k < y
    · have p0 : k < t.size := by omega
      have p1 : k < u.size := by omega
      have HE : Hid (o ++ M.bytesOf [((t[k]'p0).toNat + (u[k]'p1).toNat) % 256] = M.mk (k + 1) fun j => (M.bz t j + M.bz u j) % 256) := by
        rw [M.mk_succ, ← ho.out, M.bz_at t k p0, M.bz_at u k p1]; rfl
      have HZ : Hid ((o ++ M.bytesOf [((t[k]'p0).toNat + (u[k]'p1).toNat) % 256]).size ≤ k + 1) := by rw [HE.out, M.mk_size]; exact Nat.le_refl _
      have b3 : (t[k]'p0).toNat < 256 := UInt8.toNat_lt _
      have b4 : (u[k]'p1).toNat < 256 := UInt8.toNat_lt _
      have i0 : (k : Int) < (t.size : Int) := by omega
      have i1 : (k : Int) < (u.size : Int) := by omega
      have w0 : IntKind.i64.wrap ((t[k]'p0).toNat : Int) = ((t[k]'p0).toNat : Int) := IntWalk.i64_in _ ⟨by omega, by omega⟩
      have w1 : IntKind.i64.wrap ((u[k]'p1).toNat : Int) = ((u[k]'p1).toNat : Int) := IntWalk.i64_in _ ⟨by omega, by omega⟩
      have w2 : IntKind.i64.wrap (((t[k]'p0).toNat : Int) + ((u[k]'p1).toNat : Int)) = ((t[k]'p0).toNat : Int) + ((u[k]'p1).toNat : Int) := IntWalk.i64_in _ ⟨by omega, by omega⟩
      have htm : (((t[k]'p0).toNat : Int) + ((u[k]'p1).toNat : Int)).tmod 256 = (((((t[k]'p0).toNat + (u[k]'p1).toNat) % 256 : Nat)) : Int) := by rw [Int.tmod_eq_emod_of_nonneg (by omega)]; omega
      have hlt2 : ((t[k]'p0).toNat + (u[k]'p1).toNat) % 256 < 256 := Nat.mod_lt _ (by omega)
      obtain ⟨r, hr⟩ : ∃ r, r = ((t[k]'p0).toNat + (u[k]'p1).toNat) % 256 := ⟨_, rfl⟩
      rw [← hr] at htm hlt2 HE HZ
      clear hr
      have hw8 : IntKind.u8.wrap (r : Int) = (r : Int) := IntWalk.u8_in _ ⟨by omega, by omega⟩
      have hcv := text_cell ((wr.alloc (.cells #[.int .u8 (r : Int)] 5)).drew) wr.heap.size r hlt2 (by simp)
      have hTz : (M.bytesOf [r]).size ≤ 1 := Nat.le_refl _
      generalize M.bytesOf [r] = T at *
      have hpl : ¬ 9223372036854775807 < o.size + T.size := by omega
      have hpl2 : ¬ (9223372036854775807 : Int) < (o.size : Int) + (T.size : Int) := by omega
      go_wp2_with fail
      go_region
      all_goals
        have HB1 : Hid (Below w.heap.size w ((wr.alloc (.cells #[.int .u8 (r : Int)] 5)).drew)) := ((unhide HB).alloc hsz _).drew
        go_wp2
        go_roundw
        case rel => exact ⟨k + 1, o ++ T, by omega, by go_num, rfl, HE, unhide HZ, unhide HB1⟩
        case measure => simp [intOf]; omega
    · have hkx : k = y := by omega
      subst hkx
      go_wp2_with fail
      go_quiet (fail)
      go_wp2
      refine bodyPost_ret (v := .tuple #[.string _, .string _, .bool true]) (by simp [results, Tryz.results200, go_sem]; try rfl) rfl ⟨ret_first (by rw [ho.out]; exact HG.out) HS.out, below_drewN' (unhide HB) _⟩
end Go.Proofs.YtjfmiomopfjecabGreat

/- The document's answer where a step is none, and slotsref.Patch. -/
namespace Go.Proofs.YtjfmiomopfjecabGreat
open Go.RowKit Go.Lib

theorem notOk {b p : ByteArray} (h : M.opOk b p 0 = false) (h3 : M.bz p 0 ≤ 3) : p.size < M.opLen p 0 ∨ ((M.bz p 0 = 0 ∨ M.bz p 0 = 3) ∧ b.size < M.bz p 1 + M.bz p 2) := by
  unfold M.opOk M.opThere M.opFits at h
  rw [decide_eq_true h3, Bool.true_and] at h
  simp only [Nat.zero_add, Bool.and_eq_false_iff, decide_eq_false_iff_not, Bool.or_eq_false_iff, Bool.not_eq_false', Bool.or_eq_true, decide_eq_true_eq] at h
  omega
theorem refNum_out {s : ByteArray} {i : Nat} (h : s.size ≤ i) : refNum s i = -1 := if_neg (by omega)
theorem firstNo_zero (b p : ByteArray) (w : World) (hp : p.size ≤ 2000000) (hb : b.size ≤ 2000000) (hp0 : 0 < p.size) (h0 : M.bz p 0 = 0) (hok : M.opOk b p 0 = false) :
    Calls Tryz.prog 200 #[.string b, .string p] w fun e w' => e = .returned firstNo ∧ Below w.heap.size w w' := by
  have hpm : p.size ≤ maxLen := by unfold maxLen; omega
  have hl : M.opLen p 0 = 3 := by simp [M.opLen, h0]
  have hno := notOk hok (by omega)
  rw [hl] at hno
  have HC : Hid (refNum p 1 < 0 ∨ refNum p 2 < 0 ∨ (b.size : Int) < refNum p 1 + refNum p 2) := by
    show _ ∨ _ ∨ _
    by_cases h3 : p.size < 3
    · rw [refNum_out (s := p) (i := 2) (by omega)]; omega
    · rw [refNum_in (s := p) (i := 1) (by omega), refNum_in (s := p) (i := 2) (by omega)]; omega
  have n0 := refNum_in (s := p) (i := 0) (by omega)
  obtain ⟨r1, r1'⟩ := refNum_bd p 1
  obtain ⟨r2, r2'⟩ := refNum_bd p 2
  clear hok hno hl
  go_enter Tryz.func200, Tryz.ntmps200
  go_wp2_with fail
  refine (refNumber_nat p 1 _ hpm).mono ?_
  rintro e w' ⟨rfl, rfl⟩
  go_wp2_with fail
  refine (refNumber_nat p 2 _ hpm).mono ?_
  rintro e w' ⟨rfl, rfl⟩
  go_wp2_with fail
  refine (refNumber_nat p 0 _ hpm).mono ?_
  rintro e w' ⟨rfl, rfl⟩
  rw [n0, h0]
  clear n0 h0
  generalize refNum p 1 = x at *
  generalize refNum p 2 = y at *
  go_wp2_with fail
  refine (taken_no b x y _ hb r1 (by omega) r2 (by omega) (unhide HC)).mono ?_
  rintro e w' ⟨rfl, rfl⟩
  go_wp2
  exact bodyPost_ret (v := firstNo) (by simp [results, Tryz.results200, go_sem, firstNo]) rfl ⟨rfl, Below.refl _ _⟩
theorem firstNo_one (b p : ByteArray) (w : World) (hp : p.size ≤ 2000000) (hp0 : 0 < p.size) (h0 : M.bz p 0 = 1) (hok : M.opOk b p 0 = false) :
    Calls Tryz.prog 200 #[.string b, .string p] w fun e w' => e = .returned firstNo ∧ Below w.heap.size w w' := by
  have hpm : p.size ≤ maxLen := by unfold maxLen; omega
  have hl : M.opLen p 0 = 2 + M.bz p 1 := by simp [M.opLen, h0]
  have hno := notOk hok (by omega)
  rw [hl] at hno
  have HC : Hid ((2 : Int) < 0 ∨ refNum p 1 < 0 ∨ (p.size : Int) < 2 + refNum p 1) := by
    show _ ∨ _ ∨ _
    by_cases h3 : p.size < 2
    · rw [refNum_out (s := p) (i := 1) (by omega)]; omega
    · rw [refNum_in (s := p) (i := 1) (by omega)]; omega
  have n0 := refNum_in (s := p) (i := 0) (by omega)
  obtain ⟨r1, r1'⟩ := refNum_bd p 1
  obtain ⟨r2, r2'⟩ := refNum_bd p 2
  clear hok hno hl
  go_enter Tryz.func200, Tryz.ntmps200
  go_wp2_with fail
  refine (refNumber_nat p 1 _ hpm).mono ?_
  rintro e w' ⟨rfl, rfl⟩
  go_wp2_with fail
  refine (refNumber_nat p 2 _ hpm).mono ?_
  rintro e w' ⟨rfl, rfl⟩
  go_wp2_with fail
  refine (refNumber_nat p 0 _ hpm).mono ?_
  rintro e w' ⟨rfl, rfl⟩
  rw [n0, h0]
  clear n0 h0
  generalize refNum p 1 = x at *
  generalize refNum p 2 = y at *
  go_wp2_with fail
  refine (taken_no p 2 x _ hp (by omega) (by omega) r1 (by omega) (unhide HC)).mono ?_
  rintro e w' ⟨rfl, rfl⟩
  go_wp2
  exact bodyPost_ret (v := firstNo) (by simp [results, Tryz.results200, go_sem, firstNo]) rfl ⟨rfl, Below.refl _ _⟩
theorem firstNo_two (b p : ByteArray) (w : World) (hp : p.size ≤ 2000000) (hp0 : 0 < p.size) (h0 : M.bz p 0 = 2) (hok : M.opOk b p 0 = false) :
    Calls Tryz.prog 200 #[.string b, .string p] w fun e w' => e = .returned firstNo ∧ Below w.heap.size w w' := by
  have hpm : p.size ≤ maxLen := by unfold maxLen; omega
  have hl : M.opLen p 0 = 3 := by simp [M.opLen, h0]
  have hno := notOk hok (by omega)
  rw [hl] at hno
  have n2 := refNum_out (s := p) (i := 2) (by omega)
  have n0 := refNum_in (s := p) (i := 0) (by omega)
  obtain ⟨r1, r1'⟩ := refNum_bd p 1
  clear hok hno hl
  go_enter Tryz.func200, Tryz.ntmps200
  go_wp2_with fail
  refine (refNumber_nat p 1 _ hpm).mono ?_
  rintro e w' ⟨rfl, rfl⟩
  go_wp2_with fail
  refine (refNumber_nat p 2 _ hpm).mono ?_
  rintro e w' ⟨rfl, rfl⟩
  rw [n2]
  go_wp2_with fail
  refine (refNumber_nat p 0 _ hpm).mono ?_
  rintro e w' ⟨rfl, rfl⟩
  rw [n0, h0]
  clear n0 h0 n2
  generalize refNum p 1 = x at *
  go_wp2
  exact bodyPost_ret (v := firstNo) (by simp [results, Tryz.results200, go_sem, firstNo]) rfl ⟨rfl, Below.refl _ _⟩
theorem firstNo_three (b p : ByteArray) (w : World) (hp : p.size ≤ 2000000) (hb : b.size ≤ 2000000) (hp0 : 0 < p.size) (h0 : M.bz p 0 = 3) (hok : M.opOk b p 0 = false) :
    Calls Tryz.prog 200 #[.string b, .string p] w fun e w' => e = .returned firstNo ∧ Below w.heap.size w w' := by
  have hpm : p.size ≤ maxLen := by unfold maxLen; omega
  have hl : M.opLen p 0 = 3 + M.bz p 2 := by simp [M.opLen, h0]
  have hno := notOk hok (by omega)
  rw [hl] at hno
  have HC : Hid (refNum p 1 < 0 ∨ refNum p 2 < 0 ∨ (b.size : Int) < refNum p 1 + refNum p 2 ∨ (p.size : Int) < 3 + refNum p 2) := by
    show _ ∨ _ ∨ _ ∨ _
    by_cases h3 : p.size < 3
    · rw [refNum_out (s := p) (i := 2) (by omega)]; omega
    · rw [refNum_in (s := p) (i := 1) (by omega), refNum_in (s := p) (i := 2) (by omega)]; omega
  have n0 := refNum_in (s := p) (i := 0) (by omega)
  obtain ⟨r1, r1'⟩ := refNum_bd p 1
  obtain ⟨r2, r2'⟩ := refNum_bd p 2
  clear hok hno hl
  go_enter Tryz.func200, Tryz.ntmps200
  go_wp2_with fail
  refine (refNumber_nat p 1 _ hpm).mono ?_
  rintro e w' ⟨rfl, rfl⟩
  go_wp2_with fail
  refine (refNumber_nat p 2 _ hpm).mono ?_
  rintro e w' ⟨rfl, rfl⟩
  go_wp2_with fail
  refine (refNumber_nat p 0 _ hpm).mono ?_
  rintro e w' ⟨rfl, rfl⟩
  rw [n0, h0]
  clear n0 h0
  generalize refNum p 1 = x at *
  generalize refNum p 2 = y at *
  by_cases hx : x < 0 ∨ y < 0 ∨ (b.size : Int) < x + y
  · go_wp2_with fail
    refine (taken_no b x y _ hb r1 (by omega) r2 (by omega) hx).mono ?_
    rintro e w' ⟨rfl, rfl⟩
    by_cases hy : y < 0 ∨ (p.size : Int) < 3 + y
    · have HY := hide hy
      clear hx hy
      go_wp2_with fail
      refine (taken_no p 3 y _ hp (by omega) (by omega) r2 (by omega) (.inr (unhide HY))).mono ?_
      rintro e w' ⟨rfl, rfl⟩
      go_wp2
      exact bodyPost_ret (v := firstNo) (by simp [results, Tryz.results200, go_sem, firstNo]) rfl ⟨rfl, Below.refl _ _⟩
    · obtain ⟨m, rfl⟩ := Int.eq_ofNat_of_zero_le (show 0 ≤ y by omega)
      have HY : Hid (3 + m ≤ p.size) := by show 3 + m ≤ p.size; omega
      clear hx hy
      go_wp2_with fail
      refine (taken_yes_at p _ _ 3 m _ hp (unhide HY) rfl rfl).mono ?_
      rintro e w' ⟨rfl, rfl⟩
      generalize (M.mk m fun j => M.bz p (3 + j)) = t at *
      go_wp2
      exact bodyPost_ret (v := firstNo) (by simp [results, Tryz.results200, go_sem, firstNo]) rfl ⟨rfl, Below.refl _ _⟩
  · have hc := HC.out
    have hy : (p.size : Int) < 3 + y := by omega
    obtain ⟨k, rfl⟩ := Int.eq_ofNat_of_zero_le (show 0 ≤ x by omega)
    obtain ⟨m, rfl⟩ := Int.eq_ofNat_of_zero_le (show 0 ≤ y by omega)
    have HX : Hid (k + m ≤ b.size) := by show k + m ≤ b.size; omega
    have HY := hide hy
    clear hx hc HC hy
    go_wp2_with fail
    refine (taken_yes b k m _ hb (unhide HX)).mono ?_
    rintro e w' ⟨rfl, rfl⟩
    generalize (M.mk m fun j => M.bz b (k + j)) = t at *
    go_wp2_with fail
    refine (taken_no p 3 m _ hp (by omega) (by omega) r2 (by omega) (.inr (.inr (unhide HY)))).mono ?_
    rintro e w' ⟨rfl, rfl⟩
    go_wp2
    exact bodyPost_ret (v := firstNo) (by simp [results, Tryz.results200, go_sem, firstNo]) rfl ⟨rfl, Below.refl _ _⟩
theorem firstNo_more (b p : ByteArray) (w : World) (hp : p.size ≤ 2000000) (hp0 : 0 < p.size) (h0 : 3 < M.bz p 0) :
    Calls Tryz.prog 200 #[.string b, .string p] w fun e w' => e = .returned firstNo ∧ Below w.heap.size w w' := by
  have hpm : p.size ≤ maxLen := by unfold maxLen; omega
  have n0 := refNum_in (s := p) (i := 0) (by omega)
  have b0 := M.bz_lt p 0
  go_enter Tryz.func200, Tryz.ntmps200
  go_wp2_with fail
  refine (refNumber_nat p 1 _ hpm).mono ?_
  rintro e w' ⟨rfl, rfl⟩
  go_wp2_with fail
  refine (refNumber_nat p 2 _ hpm).mono ?_
  rintro e w' ⟨rfl, rfl⟩
  go_wp2_with fail
  refine (refNumber_nat p 0 _ hpm).mono ?_
  rintro e w' ⟨rfl, rfl⟩
  rw [n0]
  clear n0
  generalize M.bz p 0 = z at *
  have k0 : ((z : Int) == 0) = false := by rw [beq_eq_false_iff_ne]; omega
  have k1 : ((z : Int) == 1) = false := by rw [beq_eq_false_iff_ne]; omega
  have k2 : ((z : Int) == 2) = false := by rw [beq_eq_false_iff_ne]; omega
  have k3 : ((z : Int) == 3) = false := by rw [beq_eq_false_iff_ne]; omega
  generalize refNum p 1 = x at *
  generalize refNum p 2 = y at *
  go_wp2
  exact bodyPost_ret (v := firstNo) (by simp [results, Tryz.results200, go_sem, firstNo]) rfl ⟨rfl, Below.refl _ _⟩
theorem first_yes (b p : ByteArray) (w : World) (hp : p.size ≤ 2000000) (hb : b.size ≤ 2000000) (hp0 : 0 < p.size) (hok : M.opOk b p 0 = true) :
    Calls Tryz.prog 200 #[.string b, .string p] w fun e w' => e = .returned (firstYes b p) ∧ Below w.heap.size w w' := by
  have h3 := M.opOk_what hok
  by_cases h0 : M.bz p 0 = 0
  · exact first_zero b p w hp hb hp0 h0 hok
  by_cases h1 : M.bz p 0 = 1
  · exact first_one b p w hp hb hp0 h1 hok
  by_cases h2 : M.bz p 0 = 2
  · exact first_two b p w hp hb hp0 h2 hok
  exact first_three b p w hp hb hp0 (by omega) hok
theorem first_no (b p : ByteArray) (w : World) (hp : p.size ≤ 2000000) (hb : b.size ≤ 2000000) (hp0 : 0 < p.size) (hok : M.opOk b p 0 = false) :
    Calls Tryz.prog 200 #[.string b, .string p] w fun e w' => e = .returned firstNo ∧ Below w.heap.size w w' := by
  by_cases h0 : M.bz p 0 = 0
  · exact firstNo_zero b p w hp hb hp0 h0 hok
  by_cases h1 : M.bz p 0 = 1
  · exact firstNo_one b p w hp hp0 h1 hok
  by_cases h2 : M.bz p 0 = 2
  · exact firstNo_two b p w hp hp0 h2 hok
  by_cases h3 : M.bz p 0 = 3
  · exact firstNo_three b p w hp hb hp0 h3 hok
  exact firstNo_more b p w hp hp0 (by omega)
end Go.Proofs.YtjfmiomopfjecabGreat

/- slotsref.Patch, and the law. -/
namespace Go.Proofs.YtjfmiomopfjecabGreat
open Go.RowKit Go.Lib

theorem text_ne {r : ByteArray} (h : 0 < r.size) : r.toList.isEmpty = false := by
  rw [ByteArray.toList_eq]
  have e : r.data.toList.length = r.size := by rw [Array.length_toList]; rfl
  cases hl : r.data.toList with
  | nil => rw [hl] at e; simp at e; omega
  | cons x l => rfl
theorem text_nil {r : ByteArray} (h : r.size = 0) : r = ⟨#[]⟩ := M.bz_ext (by rw [h]; rfl) (fun j hj => by omega)
set_option maxHeartbeats 400000 in
theorem refPatch_any (b p : ByteArray) (n : Int) (w : World) (hp : p.size ≤ 2000000) (hb : b.size ≤ 2000000) :
    Calls Tryz.prog 194 #[.string b, .string p, .int .i64 n] w fun e w' => e = .returned (.tuple #[.string (M.patchTxt b p n), .int .i64 (M.patchNum b p n)]) ∧ Below w.heap.size w w' := by
  have HS0 := hide (M.suf_zero p)
  go_enter Tryz.func194, Tryz.ntmps194
  go_wp2_with fail
  go_loopw [1, 8] (fun q v wr => ∃ (k : Nat) (o r : ByteArray), k ≤ p.size ∧ q = .string r ∧ v = .string o ∧ Hid (r = M.suf p k) ∧ Hid (M.goFrom b p k o = M.goFrom b p 0 ⟨#[]⟩) ∧ o.size ≤ 255 * k ∧ Below w.heap.size w wr) (fun q _ _ => match q with | .string r => r.size | _ => 0)
  case atStart => exact ⟨0, ⟨#[]⟩, p, by omega, rfl, rfl, HS0.out.symm, rfl, by show 0 ≤ _; omega, Below.refl _ _⟩
  case round =>
    obtain ⟨k, o, r, hk, rfl, rfl, hr, hgo, hz, hbel⟩ := hrel
    have hsz := hbel.size
    have HB := hide hbel
    have HRZ : Hid (r.size = p.size - k) := by rw [hr.out, M.suf_size]; rfl
    clear hbel
    by_cases hlt : k < p.size
    · have h0 : 0 < r.size := by rw [HRZ.out]; omega
      have hne := text_ne h0
      have hrz : r.size ≤ 2000000 := by rw [HRZ.out]; omega
      cases hok : M.opOk b p k
      · have HNO : Hid (M.opOk b r 0 = false) := by rw [hr.out, M.suf_ok b p k hlt]; exact hok
        have HEND := hide (txt_none (res_none (n := n) (hgo.out.symm.trans (M.goFrom_no hlt hok))))
        clear hok
        go_wp2_with fail
        refine (first_no b r _ hrz hb h0 (unhide HNO)).mono ?_
        rintro e w1 ⟨rfl, hb1⟩
        have HB1 := hide ((unhide HB).trans (hb1.mono hsz))
        unfold firstNo
        clear hb1
        go_wp2
        go_ret2
        exact ⟨ret_txt HEND.out, unhide HB1⟩
      · have HYES : Hid (M.opOk b r 0 = true) := by rw [hr.out, M.suf_ok b p k hlt]; exact hok
        have hle := M.opOk_le hok
        have hl2 := M.opLen_two p k
        have hc := M.opCount_le p k
        have HG : Hid (M.opGives b r 0 = M.opGives b p k) := by rw [hr.out, M.suf_gives]; rfl
        have HS : Hid (M.suf r (M.opLen r 0) = M.suf p (k + M.opLen p k)) := by rw [hr.out, M.suf_len, M.suf_suf]; rfl
        have HZ := hide (M.opGives_size b p k)
        have HNEW := hide ((M.goFrom_ok (o := o) hlt hok).symm.trans hgo.out)
        have HSZ := hide (M.suf_size p (k + M.opLen p k))
        clear hok
        go_wp2_with fail
        refine (first_yes b r _ hrz hb h0 (unhide HYES)).mono ?_
        rintro e w1 ⟨rfl, hb1⟩
        have HB1 := hide ((unhide HB).trans (hb1.mono hsz))
        clear hb1 HYES
        unfold firstYes
        rw [HG.out, HS.out]
        clear HG HS
        generalize M.opGives b p k = g at *
        generalize M.opCount p k = c at *
        generalize M.opLen p k = l at *
        have HT : Hid (M.suf p (k + l) = M.suf p (k + l)) := rfl
        have hgz : g.size ≤ 255 := by rw [HZ.out]; exact hc
        have HON : Hid ((o ++ g).size ≤ 255 * (k + l)) := by rw [ByteArray.size_append]; show _ ≤ _; omega
        generalize hS : M.suf p (k + l) = S at *
        have HS2 := hide hS
        clear hS
        go_wp2
        go_roundw
        case rel => exact ⟨k + l, o ++ g, S, by omega, rfl, rfl, HS2.out.symm, HNEW, unhide HON, unhide HB1⟩
        case measure => show S.size < r.size; rw [HSZ.out, HRZ.out]; omega
    · have hkn : k = p.size := by omega
      have e := text_nil (r := r) (by rw [HRZ.out]; omega)
      subst e
      have hG := hgo.out.symm.trans (M.goFrom_end (o := o) (by omega : p.size ≤ k))
      by_cases hn : (o.size : Int) = n
      · have HEND := hide (txt_some (res_some hG hn))
        have hne : ((o.size : Int) != n) = false := by rw [bne_eq_false_iff_eq]; exact hn
        clear hG hn
        go_wp2
        go_ret2
        exact ⟨ret_txt HEND.out, unhide HB⟩
      · have HEND := hide (txt_none (res_size hG hn))
        have hne : ((o.size : Int) != n) = true := by rw [bne_iff_ne]; exact hn
        clear hG hn
        go_wp2
        go_ret2
        exact ⟨ret_txt HEND.out, unhide HB⟩
theorem lawNum_any (n : Int) (w : World) : Calls Tryz.prog 63 #[.int .i64 n] w fun e w' => e = .returned (.int .i64 n) ∧ w = w' := by
  go_enter Tryz.func63, Tryz.ntmps63
  go_wp2
  go_ret
  exact ⟨rfl, rfl⟩
end Go.Proofs.YtjfmiomopfjecabGreat

/- The program's Diff: delta.alike, copying, giving, Between, slots.Diff. -/
namespace Go.Proofs.YtjfmiomopfjecabGreat
open Go.RowKit Go.Lib

set_option maxRecDepth 10000 in
theorem alike_any (a b : ByteArray) (w : World) (ha : a.size ≤ 2000000) (_hb : b.size ≤ 2000000) :
    Calls Tryz.prog 95 #[.string a, .string b] w fun e w' => e = .returned (.int .i64 (M.alk a b)) ∧ Below w.heap.size w w' := by
  go_enter Tryz.func95, Tryz.ntmps95
  go_wp2_with fail
  go_loopw [5] (fun i wr => ∃ k : Nat, k ≤ a.size ∧ i = .int .i64 k ∧ Hid (M.alkF a b (a.size - k) k = M.alk a b) ∧ Below w.heap.size w wr) (fun i _ => a.size - (intOf i).toNat)
  case atStart => exact ⟨0, by omega, rfl, rfl, Below.refl _ _⟩
  case round =>
    obtain ⟨k, hk, rfl, hg, hbel⟩ := hrel
    have HB := hide hbel
    clear hbel
    by_cases h1 : k < a.size
    · have i1 : (k : Int) < (a.size : Int) := by omega
      have d1 : decide ((k : Int) < (a.size : Int)) = true := decide_eq_true i1
      have d1' : decide (k < a.size) = true := decide_eq_true h1
      by_cases h2 : k < b.size
      · have i2 : (k : Int) < (b.size : Int) := by omega
        have d2 : decide ((k : Int) < (b.size : Int)) = true := decide_eq_true i2
        have d2' : decide (k < b.size) = true := decide_eq_true h2
        by_cases h3 : M.bz a k = M.bz b k
        · have HN := hide ((M.alkF_go ⟨h1, h2, h3⟩).symm.trans hg.out)
          rw [← M.bz_at a k h1, ← M.bz_at b k h2] at h3
          have e3 : (((a[k]'h1).toNat : Int) == ((b[k]'h2).toNat : Int)) = true := by rw [beq_iff_eq]; omega
          clear h3
          go_wp2_with fail
          go_quiet (fail)
          go_wp2
          go_roundw
          case rel => exact ⟨k + 1, by omega, by go_num, HN, below_drewN' (unhide HB) _⟩
          case measure => simp [intOf]; omega
        · have HN := hide ((M.alkF_stop (f := a.size - k) (fun h => h3 h.2.2)).symm.trans hg.out)
          rw [← M.bz_at a k h1, ← M.bz_at b k h2] at h3
          have e3 : (((a[k]'h1).toNat : Int) == ((b[k]'h2).toNat : Int)) = false := by rw [beq_eq_false_iff_ne]; omega
          clear h3
          go_wp2_with fail
          go_quiet (fail)
          go_wp2
          go_ret
          exact ⟨ret_int (by rw [HN.out]), below_drewN' (unhide HB) _⟩
      · have HN := hide ((M.alkF_stop (f := a.size - k) (fun h => h2 h.2.1)).symm.trans hg.out)
        have d2 : decide ((k : Int) < (b.size : Int)) = false := decide_eq_false (by omega)
        have d2' : decide (k < b.size) = false := decide_eq_false h2
        go_wp2_with fail
        go_quiet (fail)
        go_wp2
        go_ret
        exact ⟨ret_int (by rw [HN.out]), below_drewN' (unhide HB) _⟩
    · have HN := hide ((M.alkF_stop (f := a.size - k) (fun h => h1 h.1)).symm.trans hg.out)
      have d1 : decide ((k : Int) < (a.size : Int)) = false := decide_eq_false (by omega)
      have d1' : decide (k < a.size) = false := decide_eq_false h1
      go_wp2_with fail
      go_quiet (fail)
      go_wp2
      go_ret
      exact ⟨ret_int (by rw [HN.out]), below_drewN' (unhide HB) _⟩

theorem copying_any (n : Nat) (w : World) (hn : n ≤ 255) :
    Calls Tryz.prog 97 #[.int .i64 n] w fun e w' => e = .returned (.string (M.copyT n)) ∧ Below w.heap.size w w' := by
  by_cases h : n = 0
  · have HE := hide (show M.copyT n = ⟨#[]⟩ from if_pos h)
    subst h
    go_enter Tryz.func97, Tryz.ntmps97
    go_wp2
    go_ret
    exact ⟨ret_string HE.out.symm, Below.refl _ _⟩
  · have HE := hide (show M.copyT n = M.bytesOf [0, 0, n] from if_neg h)
    have hr := text_run w [0, 0, (n : Int)] 3 rfl
    simp only [List.map_cons, List.map_nil] at hr
    have h0 : ((n : Int) == 0) = false := by rw [beq_eq_false_iff_ne]; omega
    clear h
    go_enter Tryz.func97, Tryz.ntmps97
    go_wp2
    go_ret
    exact ⟨ret_string (by rw [HE.out]; simp [M.bytesOf]), (Below.refl _ _).alloc (Nat.le_refl _) _⟩
theorem giving_any (s : ByteArray) (w : World) (hs : s.size ≤ 255) :
    Calls Tryz.prog 98 #[.string s] w fun e w' => e = .returned (.string (M.giveT s)) ∧ Below w.heap.size w w' := by
  by_cases h : s.size = 0
  · have HE := hide (show M.giveT s = ⟨#[]⟩ from if_pos h)
    have e := text_nil h
    subst e
    go_enter Tryz.func98, Tryz.ntmps98
    go_wp2
    go_ret
    exact ⟨ret_string HE.out.symm, Below.refl _ _⟩
  · have HE := hide (show M.giveT s = M.bytesOf [1, s.size] ++ s from if_neg h)
    have hne := text_ne (r := s) (by omega)
    have hr := text_run w [1, (s.size : Int)] 2 rfl
    simp only [List.map_cons, List.map_nil] at hr
    have HT : Hid ((⟨#[UInt8.ofNat (1 : Int).toNat, UInt8.ofNat (s.size : Int).toNat]⟩ : ByteArray) = M.bytesOf [1, s.size]) := by
      show _ = _
      simp [M.bytesOf]
    have hTz : (M.bytesOf [1, s.size]).size ≤ 2 := Nat.le_refl _
    rw [show [UInt8.ofNat (1 : Int).toNat, UInt8.ofNat (s.size : Int).toNat].toArray = #[UInt8.ofNat (1 : Int).toNat, UInt8.ofNat (s.size : Int).toNat] from rfl, HT.out] at hr
    clear h HT
    generalize M.bytesOf [1, s.size] = T at *
    go_enter Tryz.func98, Tryz.ntmps98
    go_wp2
    go_ret
    exact ⟨ret_string HE.out.symm, (Below.refl _ _).alloc (Nat.le_refl _) _⟩

theorem between_any (b t : ByteArray) (w : World) (hb : b.size ≤ 96) (ht : t.size ≤ 96) :
    Calls Tryz.prog 68 #[.string b, .string t] w fun e w' => e = .returned (.string (M.diffT b t)) ∧ Below w.heap.size w w' := by
  obtain ⟨l1, l2⟩ := M.alk_le b t
  have HR : Hid ((M.mk (t.size - M.alk b t) fun j => M.bz t (M.alk b t + j)) = M.restT t (M.alk b t)) := rfl
  have HRZ := hide (M.restT_size t (M.alk b t))
  have HS : Hid (M.copyT (M.alk b t) ++ M.giveT (M.restT t (M.alk b t)) = M.shortT b t) := rfl
  have HC := hide (M.copyT_size (M.alk b t))
  have HGz := hide (M.giveT_size (M.restT t (M.alk b t)))
  have HDT : Hid (M.diffT b t = if (M.shortT b t).size < (M.giveT t).size then M.shortT b t else M.giveT t) := rfl
  go_enter Tryz.func68, Tryz.ntmps68
  go_wp2_with fail
  refine (alike_any b t _ (by omega) (by omega)).mono ?_
  rintro e w1 ⟨rfl, hb1⟩
  have HB1 := hide hb1
  have hsz1 := hb1.size
  clear hb1
  generalize M.alk b t = n at *
  go_wp2_with fail
  refine (part_yes_at t _ _ n (t.size - n) _ (by omega) (by omega) rfl (by omega)).mono ?_
  rintro e w' ⟨rfl, rfl⟩
  rw [HR.out]
  clear HR
  generalize M.restT t n = r at *
  have hrz : r.size ≤ 96 := by rw [HRZ.out]; omega
  go_wp2_with fail
  refine (copying_any n _ (by omega)).mono ?_
  rintro e w2 ⟨rfl, hb2⟩
  have HB2 := hide ((unhide HB1).trans (hb2.mono hsz1))
  have hsz2 := hb2.size
  clear hb2
  generalize M.copyT n = c at *
  have hcz : c.size ≤ 3 := by rw [HC.out]; split <;> omega
  go_wp2_with fail
  refine (giving_any r _ (by omega)).mono ?_
  rintro e w3 ⟨rfl, hb3⟩
  have HB3 := hide ((unhide HB2).trans (hb3.mono (by omega)))
  have hsz3 := hb3.size
  clear hb3
  have hgz : (M.giveT r).size ≤ 98 := by rw [HGz.out]; split <;> omega
  clear HGz
  generalize M.giveT r = g at *
  go_wp2_with fail
  refine (giving_any t _ (by omega)).mono ?_
  rintro e w4 ⟨rfl, hb4⟩
  have HB4 := hide ((unhide HB3).trans (hb4.mono (by omega)))
  clear hb4
  rw [HS.out]
  generalize M.shortT b t = S at *
  generalize M.giveT t = G at *
  by_cases hlt : S.size < G.size
  · have HE : Hid (M.diffT b t = S) := by rw [HDT.out, if_pos hlt]; rfl
    go_wp2
    go_ret
    exact ⟨ret_string HE.out.symm, unhide HB4⟩
  · have HE : Hid (M.diffT b t = G) := by rw [HDT.out, if_neg hlt]; rfl
    go_wp2
    go_ret
    exact ⟨ret_string HE.out.symm, unhide HB4⟩
theorem slotsDiff_ok (b t : ByteArray) (w : World) (hb : b.size ≤ 96) (ht : t.size ≤ 96) :
    Calls Tryz.prog 54 #[.string b, .string t] w fun e w' => e = .returned (.tuple #[.string (M.diffT b t), .int .i64 0]) ∧ Below w.heap.size w w' := by
  go_enter Tryz.func54, Tryz.ntmps54
  go_wp2_with fail
  refine (between_any b t _ hb ht).mono ?_
  rintro e w1 ⟨rfl, hb1⟩
  have HB1 := hide hb1
  clear hb1
  go_wp2
  go_ret2
  exact ⟨rfl, unhide HB1⟩
theorem slotsDiff_no (b t : ByteArray) (w : World) (_hb : b.size ≤ maxLen) (_ht : t.size ≤ maxLen) (h : 96 < b.size ∨ 96 < t.size) :
    Calls Tryz.prog 54 #[.string b, .string t] w fun e w' => e = .returned (.tuple #[.string ⟨#[]⟩, .int .i64 4]) ∧ w = w' := by
  unfold maxLen at _hb _ht
  by_cases h1 : 96 < b.size
  · clear h
    go_enter Tryz.func54, Tryz.ntmps54
    go_wp2
    go_ret2
    exact ⟨rfl, rfl⟩
  · have h2 : 96 < t.size := by omega
    clear h
    go_enter Tryz.func54, Tryz.ntmps54
    go_wp2
    go_ret2
    exact ⟨rfl, rfl⟩
end Go.Proofs.YtjfmiomopfjecabGreat

/- A change, worked out: whatever is given, a job comes of it; and a run begins. -/
namespace Go.Proofs.YtjfmiomopfjecabGreat
open Go.RowKit Go.Lib

/-- a job as it is worked out -/
structure Made (j : M.Job) (ex : ByteArray) : Prop where
  ok : M.JobOk j
  key : j.key.size ≤ 16
  exok : ExOk ex
  man : j.man = sealedT j ex j.base j.up
theorem Made.size {j : M.Job} {ex : ByteArray} (h : Made j ex) : j.man.size ≤ maxLen := by
  have := M.man_size h.ok.man
  unfold maxLen
  omega
theorem chL_man (K O N P m m' : ByteArray) (b u : Nat) (k : Nat) : chL ⟨K, O, N, b, u, P, m⟩ k = chL ⟨K, O, N, b, u, P, m'⟩ k := by
  induction k with
  | zero => rfl
  | succ k ih =>
    unfold chL
    rw [ih]
    rfl
theorem sealedT_man (K O N P m m' ex : ByteArray) (b u x y : Nat) : sealedT ⟨K, O, N, b, u, P, m⟩ ex x y = sealedT ⟨K, O, N, b, u, P, m'⟩ ex x y := by
  unfold sealedT bodyT
  rw [chL_man K O N P m m' b u]
  rfl
theorem made_op (N1 : ByteArray) : (⟨#[1]⟩ : ByteArray) ++ M.bytesOf [N1.size] ++ N1 = ownP N1 := by
  unfold ownP
  rw [show (⟨#[1]⟩ : ByteArray) = M.bytesOf [1] from rfl, M.bytesOf_append]
  rfl
/-- an example: what it asks, what is answered -/
def exT (Q A : ByteArray) : ByteArray := M.bytesOf [1, Q.size, A.size] ++ Q ++ A
theorem made_ex (Q A : ByteArray) : (⟨#[1]⟩ : ByteArray) ++ M.bytesOf [Q.size] ++ M.bytesOf [A.size] ++ Q ++ A = exT Q A := by
  unfold exT
  rw [show (⟨#[1]⟩ : ByteArray) = M.bytesOf [1] from rfl, M.bytesOf_append, M.bytesOf_append]
  rfl
section
variable {Q A : ByteArray}
theorem exT_all (hq : Q.size ≤ 8) (ha : A.size ≤ 8) : M.AllB [1, Q.size, A.size] := by
  intro x hx
  simp at hx
  omega
theorem exT_size : (exT Q A).size = 3 + Q.size + A.size := by
  unfold exT
  rw [ByteArray.size_append, ByteArray.size_append, M.bytesOf_size]
  rfl
theorem exT_low (hq : Q.size ≤ 8) (ha : A.size ≤ 8) {i : Nat} (hi : i < 3) : M.bz (exT Q A) i = [1, Q.size, A.size].getD i 0 := by
  unfold exT
  rw [M.bz_append, if_pos (by rw [ByteArray.size_append, M.bytesOf_size]; show i < 3 + Q.size; omega), M.bz_append, if_pos (by rw [M.bytesOf_size]; exact hi), M.bz_bytesOf (exT_all hq ha)]
theorem exT_mid {i : Nat} (hi : i < Q.size) : M.bz (exT Q A) (3 + i) = M.bz Q i := by
  unfold exT
  rw [M.bz_append, if_pos (by rw [ByteArray.size_append, M.bytesOf_size]; show 3 + i < 3 + Q.size; omega), M.bz_append, M.bytesOf_size, if_neg (by show ¬ 3 + i < 3; omega)]
  congr 1
  show 3 + i - 3 = i
  omega
theorem exT_high {i : Nat} : M.bz (exT Q A) (3 + Q.size + i) = M.bz A i := by
  unfold exT
  rw [M.bz_append, ByteArray.size_append, M.bytesOf_size, if_neg (by show ¬ 3 + Q.size + i < 3 + Q.size; omega)]
  congr 1
  show 3 + Q.size + i - (3 + Q.size) = i
  omega
theorem mk_of (s : ByteArray) : M.mk s.size (M.bz s) = s := by
  have := M.extract_mk s 0 s.size (by omega)
  simp only [Nat.zero_add] at this
  rw [← this]
  exact ByteArray.extract_zero_size ..
theorem exT_ok (hq : Q.size ≤ 8) (ha : A.size ≤ 8) : ExOk (exT Q A) := by
  right
  rw [exT_low hq ha (by omega), exT_low hq ha (by omega), exT_low hq ha (by omega), exT_size]
  refine ⟨by omega, rfl, hq, ha, rfl⟩
theorem exT_ev {N1 : ByteArray} (hi : M.isImage N1 = true) (hq : Q.size = 2 * M.bz N1 1) (hA : A = M.evalOut N1 Q) (hq8 : Q.size ≤ 8) (ha8 : A.size ≤ 8) :
    evalNum N1 (M.mk (M.bz (exT Q A) 1) fun k => M.bz (exT Q A) (3 + k)) = 0 ∧ evalTxt N1 (M.mk (M.bz (exT Q A) 1) fun k => M.bz (exT Q A) (3 + k)) = M.mk (M.bz (exT Q A) 2) fun k => M.bz (exT Q A) (3 + M.bz (exT Q A) 1 + k) := by
  have e1 : M.bz (exT Q A) 1 = Q.size := exT_low hq8 ha8 (by omega)
  have e2 : M.bz (exT Q A) 2 = A.size := exT_low hq8 ha8 (by omega)
  rw [e1, e2]
  have m1 : (M.mk Q.size fun k => M.bz (exT Q A) (3 + k)) = Q := (M.mk_congr fun k hk => exT_mid hk).trans (mk_of Q)
  have m2 : (M.mk A.size fun k => M.bz (exT Q A) (3 + Q.size + k)) = A := (M.mk_congr fun k _ => exT_high).trans (mk_of A)
  rw [m1, m2]
  unfold evalNum evalTxt
  rw [hi, if_pos rfl, if_pos hq, if_pos rfl, if_pos hq]
  exact ⟨rfl, hA.symm⟩
end
theorem made_full {c : Chg} (hw : ChgWf c) : ∃ (j : M.Job) (ex : ByteArray), Made j ex ∧ ∀ X : World, Calls Tryz.prog 32 #[chgV c] X fun e w' => e = .returned (.tuple #[jobV j ex, .bool true]) ∧ Below X.heap.size X w' := by
  have b1 := bounds_i64 hw.i1
  have b2 := bounds_i64 hw.o1
  have b3 := bounds_i64 hw.i2
  have b4 := bounds_i64 hw.o2
  have b5 := bounds_i64 hw.base
  have b6 := bounds_i64 hw.up
  have h1 := fun X : World => kFirst_any c.key 16 X hw.key (by omega)
  have h2 := fun X : World => kImage_any c.i1 c.o1 c.t1 c.s1 X b1.1 b1.2 b2.1 b2.2 hw.t1 hw.s1
  have h3 := fun X : World => kImage_any c.i2 c.o2 c.t2 c.s2 X b3.1 b3.2 b4.1 b4.2 hw.t2 hw.s2
  have f1 := (imageL_facts c.i1 c.o1 c.t1 c.s1).1
  have f2 := (imageL_facts c.i2 c.o2 c.t2 c.s2).1
  have hk : (fstT c.key 16).size ≤ 16 := by rw [fstT_size]; omega
  generalize fstT c.key 16 = K1 at *
  generalize M.bytesOf (imageL c.i1 c.o1 c.t1 c.s1) = O1 at *
  generalize M.bytesOf (imageL c.i2 c.o2 c.t2 c.s2) = N1 at *
  have s1 := M.image_size f1
  have s2 := M.image_size f2
  have w1 := inW_le c.base (lo := 0) (hi := 65534) (by omega)
  have h4 : ∀ X : World, Calls Tryz.prog 25 #[.int .i64 c.base, .int .i64 0, .int .i64 65534] X fun e w' => e = .returned (.int .i64 (inW c.base 0 65534)) ∧ X = w' := fun X => kWithin_any c.base 0 65534 X b5.1 b5.2 (by omega) (by omega)
  generalize inW c.base 0 65534 = ba at *
  have w2 := inW_le c.up (lo := ba + 1) (hi := 65535) (by omega)
  have h5 : ∀ X : World, Calls Tryz.prog 25 #[.int .i64 c.up, .int .i64 ((ba : Int) + 1), .int .i64 65535] X fun e w' => e = .returned (.int .i64 (inW c.up (ba + 1) 65535)) ∧ X = w' := fun X => kWithin_any c.up (ba + 1) 65535 X b6.1 b6.2 (by omega) (by omega)
  generalize inW c.up (ba + 1) 65535 = u at *
  have h6 := fun X : World => kOne_any N1.size X (by omega)
  have zP : (M.bytesOf [N1.size]).size = 1 := by rw [M.bytesOf_size]; rfl
  have hOP := made_op N1
  have z1 : ∀ x : Nat, (M.bytesOf [x]).size = 1 := fun x => by rw [M.bytesOf_size]; rfl
  -- the patch
  have gOwn := ownP_res O1 N1 (by omega)
  have zOwn := ownP_size N1
  have gDiff := diffP_res O1 N1 (by omega)
  have zD1 := diffP_least O1 N1 (by omega) s2.2
  have zD2 := M.diffT_two O1 N1
  have h7 := fun X : World => slotsDiff_ok O1 N1 X (by omega) (by omega)
  -- the example
  obtain ⟨g0, g1, g2, g3, g4, g5, g6⟩ := M.headOk_eq (image_head f2)
  have h8 := fun X : World => kQuestion_any N1 c.ask X (by omega) (by omega) hw.ask
  have zQ : (M.bytesOf (M.fillL c.ask (2 * M.bz N1 1))).size = 2 * M.bz N1 1 := by rw [M.bytesOf_size, M.fillL_length]
  generalize M.bytesOf (M.fillL c.ask (2 * M.bz N1 1)) = Q at *
  have h9 := fun X : World => kAnswers_any N1 Q X f2 zQ
  have zA := evalOut_size N1 Q
  have h10 := fun X : World => kOne_any Q.size X (by omega)
  have h11 := fun X : World => kOne_any (M.evalOut N1 Q).size X (by omega)
  have xok : ExOk (exT Q (M.evalOut N1 Q)) := exT_ok (by omega) (by omega)
  have xev := exT_ev (A := M.evalOut N1 Q) f2 zQ rfl (by omega) (by omega)
  have zX : (exT Q (M.evalOut N1 Q)).size ≤ 1000 := by rw [exT_size]; omega
  have nok : ExOk ⟨#[0]⟩ := .inl ⟨rfl, rfl⟩
  have nev : M.bz (⟨#[0]⟩ : ByteArray) 0 = 1 → evalNum N1 (M.mk (M.bz (⟨#[0]⟩ : ByteArray) 1) fun k => M.bz (⟨#[0]⟩ : ByteArray) (3 + k)) = 0 ∧ evalTxt N1 (M.mk (M.bz (⟨#[0]⟩ : ByteArray) 1) fun k => M.bz (⟨#[0]⟩ : ByteArray) (3 + k)) = M.mk (M.bz (⟨#[0]⟩ : ByteArray) 2) fun k => M.bz (⟨#[0]⟩ : ByteArray) (3 + M.bz (⟨#[0]⟩ : ByteArray) 1 + k) := fun h => absurd h (by decide)
  -- the job
  have job : ∀ (P ex : ByteArray), 1 ≤ P.size → P.size ≤ 96 → M.patchRes O1 P N1.size = some N1 → ExOk ex → ex.size ≤ 1000 →
      (M.bz ex 0 = 1 → evalNum N1 (M.mk (M.bz ex 1) fun k => M.bz ex (3 + k)) = 0 ∧ evalTxt N1 (M.mk (M.bz ex 1) fun k => M.bz ex (3 + k)) = M.mk (M.bz ex 2) fun k => M.bz ex (3 + M.bz ex 1 + k)) →
      Made ⟨K1, O1, N1, ba, u, P, sealedT ⟨K1, O1, N1, ba, u, P, ⟨#[]⟩⟩ ex ba u⟩ ex ∧
      ∀ X : World, Calls Tryz.prog 20 #[.agg #[.string K1, .string O1, .string N1, .int .i64 ba, .int .i64 u, .string P, .string ex, .string ⟨#[]⟩], .int .i64 ba, .int .i64 u] X fun e w' => e = .returned (.string (sealedT ⟨K1, O1, N1, ba, u, P, ⟨#[]⟩⟩ ex ba u)) ∧ Below X.heap.size X w' := by
    intro P ex p1 p2 pg xo xz xe
    refine ⟨⟨jobOk_of ⟨K1, O1, N1, ba, u, P, sealedT ⟨K1, O1, N1, ba, u, P, ⟨#[]⟩⟩ ex ba u⟩ ex f1 f2 (by show ba < u; omega) (by show u ≤ 65535; omega) p1 p2 pg xo xe (sealedT_man ..), hk, xo, sealedT_man ..⟩, fun X => ?_⟩
    exact sealed_any ⟨K1, O1, N1, ba, u, P, ⟨#[]⟩⟩ ex ba u X (by omega) (by omega) p2 (by show N1.size ≤ 96; omega) hk xz
  cases hd : c.diffed with
  | false =>
    cases he : c.shown with
    | false =>
      obtain ⟨m, hs⟩ := job (ownP N1) ⟨#[0]⟩ (by omega) (by omega) gOwn nok (by decide) nev
      exact ⟨_, _, m, fun X => worked_00 c X K1 O1 N1 _ _ _ ba u (by omega) (by omega) zP hOP hd he h1 h2 h3 h4 h5 h6 hs⟩
    | true =>
      obtain ⟨m, hs⟩ := job (ownP N1) (exT Q (M.evalOut N1 Q)) (by omega) (by omega) gOwn xok zX (fun _ => xev)
      exact ⟨_, _, m, fun X => worked_01 c X K1 O1 N1 _ _ Q _ _ _ _ _ ba u (by omega) (by omega) zP hOP (made_ex Q _) hd he (by omega) (z1 _) (by omega) (z1 _) h1 h2 h3 h4 h5 h6 h8 h9 h10 h11 hs⟩
  | true =>
    cases he : c.shown with
    | false =>
      obtain ⟨m, hs⟩ := job (M.diffT O1 N1) ⟨#[0]⟩ zD1 (by omega) gDiff nok (by decide) nev
      exact ⟨_, _, m, fun X => worked_10 c X K1 O1 N1 _ _ (M.diffT O1 N1) _ ba u (by omega) (by omega) zP hOP hd he (by omega) (by omega) h1 h2 h3 h4 h5 h6 h7 hs⟩
    | true =>
      obtain ⟨m, hs⟩ := job (M.diffT O1 N1) (exT Q (M.evalOut N1 Q)) zD1 (by omega) gDiff xok zX (fun _ => xev)
      exact ⟨_, _, m, fun X => worked_11 c X K1 O1 N1 _ _ (M.diffT O1 N1) Q _ _ _ _ _ ba u (by omega) (by omega) zP hOP (made_ex Q _) hd he (by omega) (by omega) (by omega) (z1 _) (by omega) (z1 _) h1 h2 h3 h4 h5 h6 h7 h8 h9 h10 h11 hs⟩
theorem made_run {c : Chg} (hw : ChgWf c) : ∃ (j : M.Job) (ex : ByteArray), Made j ex ∧ ∀ {inp : ByteArray}, inp.size ≤ maxLen → ∀ X : World, Calls Tryz.prog 10 #[chgV c, .string inp] X fun e w' => Begun X j ex inp e w' := by
  obtain ⟨j, ex, m, h⟩ := made_full hw
  exact ⟨j, ex, m, fun hin X => begin_any X m.ok m.key hin h⟩
theorem made {c : Chg} (hw : ChgWf c) : ∃ (j : M.Job) (ex : ByteArray), M.JobOk j ∧ j.man.size ≤ maxLen ∧ ∀ {inp : ByteArray}, inp.size ≤ maxLen → ∀ X : World, Calls Tryz.prog 10 #[chgV c, .string inp] X fun e w' => Begun X j ex inp e w' := by
  obtain ⟨j, ex, m, h⟩ := made_run hw
  exact ⟨j, ex, m.ok, m.size, h⟩
end Go.Proofs.YtjfmiomopfjecabGreat

/- A chunk that does not come: when it is asked for. In plain words. -/
namespace Go.Proofs.YtjfmiomopfjecabGreat.M
variable {j : Job} {d : Dev} {ph tr th : Nat} {up : Bool}

theorem st_ask (hj : JobOk j) (h : St j d 1 tr th false) {i : Nat} {l : List Nat} (hm : missing d.F = i :: l) :
    ∃ d', doM d (evW 3 0 ⟨#[]⟩) = (d', ⟨0, j.base, ⟨#[]⟩, if d.wait ≤ 1 then (i : Int) else -1⟩) ∧ St j d' 1 tr th false ∧
      d'.wait = (if d.wait ≤ 1 then d.next else d.wait - 1) ∧ d'.next = if d.wait ≤ 1 then min 8 (2 * d.next) else d.next := by
  have hv : verP j 1 false = j.base := by simp [verP]
  by_cases hw : d.wait ≤ 1
  · have hpl : planned d (evW 3 0 ⟨#[]⟩) = ⟨[], 0, ⟨#[]⟩, i, d.next, min 8 (2 * d.next), d.age, d.on⟩ := by
      rw [planned_on h.on (by omega) (by omega), if_pos rfl]
      unfold ticks
      rw [if_neg (by rw [h.phase]; omega), if_pos h.phase, hm]
      show (if d.wait ≤ 1 then _ else _) = _
      rw [if_pos hw]
    obtain ⟨d', a1, a2, a3, a4, a5⟩ := st_step hj h (tick_ev j) hpl rfl h.on rfl (up' := false) h.phase h.tries h.bits h.kept
    rw [hv] at a1
    refine ⟨d', ?_, a2, ?_, ?_⟩
    · rw [a1, if_pos hw]
    · rw [a3, if_pos hw]
    · rw [a4, if_pos hw]
  · have hpl : planned d (evW 3 0 ⟨#[]⟩) = ⟨[], 0, ⟨#[]⟩, -1, d.wait - 1, d.next, d.age, d.on⟩ := by
      rw [planned_on h.on (by omega) (by omega), if_pos rfl]
      unfold ticks
      rw [if_neg (by rw [h.phase]; omega), if_pos h.phase, hm]
      show (if d.wait ≤ 1 then _ else _) = _
      rw [if_neg hw]
    obtain ⟨d', a1, a2, a3, a4, a5⟩ := st_step hj h (tick_ev j) hpl rfl h.on rfl (up' := false) h.phase h.tries h.bits h.kept
    rw [hv] at a1
    refine ⟨d', ?_, a2, ?_, ?_⟩
    · rw [a1, if_neg hw]
    · rw [a3, if_neg hw]
    · rw [a4, if_neg hw]
/-- the first of the chunks that are missing -/
theorem st_missing (hj : JobOk j) (h : St j d 1 tr th false) : missing d.F = (List.range (chunksN j.patch.size)).filter fun i => decide (th / 2 ^ i % 2 = 0) := by
  obtain ⟨_, _, hm, _⟩ := h.sj.fetch h.phase
  have hm4 : mf d.F 4 = j.patch.size := by rw [hm 4 (by omega)]; exact hj.m4
  unfold missing
  rw [hm4, h.bits]
theorem missing_first (n th i : Nat) (hi : i < n) (h0 : th / 2 ^ i % 2 = 0) (hl : ∀ k, k < i → th / 2 ^ k % 2 = 1) : ∃ l, (List.range n).filter (fun i => decide (th / 2 ^ i % 2 = 0)) = i :: l := by
  have e : List.range n = List.range i ++ (i :: (List.range' (i + 1) (n - i - 1))) := by
    rw [List.range_eq_range', List.range_eq_range', show (i :: List.range' (i + 1) (n - i - 1)) = List.range' i (n - i) from by
      rw [show n - i = (n - i - 1) + 1 from by omega, List.range'_succ]
      rfl]
    have := List.range'_append (s := 0) (m := i) (n := n - i) (step := 1)
    rw [show 0 + 1 * i = i from by omega, show i + (n - i) = n from by omega] at this
    exact this.symm
  rw [e, List.filter_append, List.filter_cons_of_pos (by simp [h0])]
  rw [List.filter_eq_nil_iff.2 (fun k hk => by
    rw [List.mem_range] at hk
    have := hl k hk
    simp
    omega)]
  exact ⟨_, rfl⟩
/-- how long it waits, and how long the time behind that, behind t ticks -/
def waitN (t : Nat) : Nat := if t ≤ 2 then t else if t = 3 then 1 else 8 - t % 8
def nextN (t : Nat) : Nat := if t = 0 then 1 else if t = 1 then 2 else if t ≤ 3 then 4 else 8
theorem waitN_step (t : Nat) : waitN (t + 1) = (if waitN t ≤ 1 then nextN t else waitN t - 1) ∧ nextN (t + 1) = (if waitN t ≤ 1 then min 8 (2 * nextN t) else nextN t) := by
  unfold waitN nextN
  by_cases h : t ≤ 3
  · have hc : t = 0 ∨ t = 1 ∨ t = 2 ∨ t = 3 := by omega
    rcases hc with rfl | rfl | rfl | rfl <;> decide
  · by_cases h7 : t % 8 = 7
    · have : (t + 1) % 8 = 0 := by omega
      have : t ≠ 0 ∧ t ≠ 1 ∧ ¬ t ≤ 3 ∧ ¬ t ≤ 2 ∧ t ≠ 3 ∧ ¬ t + 1 ≤ 2 ∧ t + 1 ≠ 3 ∧ t + 1 ≠ 0 ∧ t + 1 ≠ 1 ∧ ¬ t + 1 ≤ 3 := by omega
      simp [*]
    · have : (t + 1) % 8 = t % 8 + 1 := by omega
      have : t ≠ 0 ∧ t ≠ 1 ∧ ¬ t ≤ 3 ∧ ¬ t ≤ 2 ∧ t ≠ 3 ∧ ¬ t + 1 ≤ 2 ∧ t + 1 ≠ 3 ∧ t + 1 ≠ 0 ∧ t + 1 ≠ 1 ∧ ¬ t + 1 ≤ 3 := by omega
      have : ¬ 8 - t % 8 ≤ 1 := by omega
      simp [*]
      omega
theorem waitN_asks (t : Nat) : waitN t ≤ 1 ↔ (t + 1 = 1 ∨ t + 1 = 2 ∨ t + 1 = 4 ∨ (t + 1) % 8 = 0) := by
  unfold waitN
  by_cases h : t ≤ 3
  · have hc : t = 0 ∨ t = 1 ∨ t = 2 ∨ t = 3 := by omega
    rcases hc with rfl | rfl | rfl | rfl <;> decide
  · rw [if_neg (by omega), if_neg (by omega)]
    omega
end Go.Proofs.YtjfmiomopfjecabGreat.M

/- A chunk that does not come is asked for: Asked. -/
namespace Go.Proofs.YtjfmiomopfjecabGreat
open Go.RowKit Go.Lib

section
variable {W : World} {r b : Nat} {j : M.Job} {ex inp : ByteArray} {d : M.Dev}
set_option maxRecDepth 10000 in
set_option maxHeartbeats 1000000 in
theorem runAsks_any (h : RunRel W r b j ex inp d) (want : Int) (hrp : (M.doM d ⟨3, 0, ⟨#[]⟩, -1, 0⟩).2 = ⟨0, j.base, ⟨#[]⟩, want⟩) :
    Calls Tryz.prog 26 #[.pointer (some ⟨r, 0, none⟩), .int .i64 want] W fun e w' => Goes W r b j ex inp (M.doM d ⟨3, 0, ⟨#[]⟩, -1, 0⟩).1 e w' := by
  have HR := hide h
  have HDO := hide (runDo_any h ⟨3, 0, ⟨#[]⟩, -1, 0⟩ nought_le)
  have HRP := hide hrp
  clear h hrp
  go_enter Tryz.func26, Tryz.ntmps26
  go_wp2_with fail
  refine (unhide HDO).mono ?_
  intro y w1 hpl
  have hrel := (unhide HR).does hpl
  obtain ⟨hy, hr1, ho1⟩ := hpl
  rw [HRP.out] at hy
  subst hy
  have HRL := hide hrel
  have HOL1 := hide ho1
  have K := hide hrel.run
  have hrlt : r < w1.heap.size := (Array.getElem?_eq_some_iff.1 hrel.run).1
  have rule1 : ∀ (X : World) (o : Nat), X.heap[r]? = some (.cells (runC b j ex inp true) 32 (0, 0)) → X.cell? ⟨r, o, none⟩ = (runC b j ex inp true)[o]? := fun X o h => cell_in h o
  have rule2 : ∀ (X : World) (o : Nat), X.heap[w1.heap.size]? = some (.cells #[.int .i64 0, .int .i64 j.base, .string ⟨#[]⟩, .int .i64 want] 71 (0, 0)) → X.cell? ⟨w1.heap.size, o, none⟩ = (#[.int .i64 0, .int .i64 j.base, .string ⟨#[]⟩, .int .i64 want] : Array Value)[o]? := fun X o h => cell_in h o
  clear hrel hr1 ho1 HDO
  go_wp2_with fail
  go_region_held3 (fun X => X.heap[r]? = some (.cells (runC b j ex inp true) 32 (0, 0)) ∧ X.heap[w1.heap.size]? = some (.cells #[.int .i64 0, .int .i64 j.base, .string ⟨#[]⟩, .int .i64 want] 71 (0, 0))) (refine ⟨?_, ?_⟩ <;> (repeat (first | with_reducible exact unhide K | (with_reducible exact last_block _ _ rfl) | with_reducible refine ablk ?_ | with_reducible refine drew_block ?_))) ((go_at_call 22; with_reducible refine (must_true _ _).mono ?_; rintro y wN ⟨rfl, rfl⟩))
  all_goals
    go_wp2
    refine bodyPost_end (v := .tuple #[]) (by simp [results, Tryz.results26, go_sem]) rfl ⟨rfl, (unhide HRL).kept (((Below.refl _ _).alloc (Nat.le_refl _) _).drew), ?_⟩
    have HOL := HOL1
    repeat (first | with_reducible exact unhide HOL | with_reducible refine ol_drew ?_ | with_reducible refine ol_dev ?_ | (with_reducible refine ol_set ?_ ?_; (focus (first | omega | (simp; done) | (simp; omega)))) | with_reducible refine ol_alloc ?_ | with_reducible refine ol_via (unhide HB6) ?_ | with_reducible refine ol_via (unhide HB7) ?_)
theorem asks_st (hj : M.JobOk j) {tr th i : Nat} {l : List Nat} (h : RunRel W r b j ex inp d) (hs : M.St j d 1 tr th false) (hm : M.missing d.F = i :: l) {want : Int} (hw : (if d.wait ≤ 1 then (i : Int) else -1) = want) :
    Calls Tryz.prog 26 #[.pointer (some ⟨r, 0, none⟩), .int .i64 want] W fun e w' => ∃ d', Goes W r b j ex inp d' e w' ∧ M.St j d' 1 tr th false ∧ d'.wait = (if d.wait ≤ 1 then d.next else d.wait - 1) ∧ d'.next = if d.wait ≤ 1 then min 8 (2 * d.next) else d.next := by
  obtain ⟨d', hd, hs', h1, h2⟩ := M.st_ask hj hs hm
  rw [hw] at hd
  have hd' : M.doM d ⟨3, 0, ⟨#[]⟩, -1, 0⟩ = (d', ⟨0, j.base, ⟨#[]⟩, want⟩) := hd
  have := runAsks_any h want (by rw [hd'])
  rw [hd'] at this
  exact this.mono fun e w' hh => ⟨d', hh, hs', h1, h2⟩
end
end Go.Proofs.YtjfmiomopfjecabGreat

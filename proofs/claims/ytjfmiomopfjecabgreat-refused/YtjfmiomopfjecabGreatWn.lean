/- Texts laid together: KeepAsk, KeepRefMath, KeepRefMan, KeepPages, KeepBent, KeepRefuse, KeepResMath. -/
import Derived.Test.YtjfmiomopfjecabGreatWm
import Derived.Test.YtjfmiomopfjecabGreatWk
import Derived.Laws.IdiomStrings
import Derived.Laws.MakeOwn
import Derived.Test.YtjfmiomopfjecabGreatWa
import Derived.Test.YtjfmiomopfjecabGreatWb
import Derived.Test.YtjfmiomopfjecabGreatWc
import Derived.Test.YtjfmiomopfjecabGreatWd
import Derived.Test.YtjfmiomopfjecabGreatWe
import Derived.Test.YtjfmiomopfjecabGreatWf
import Derived.Test.YtjfmiomopfjecabGreatWg
import Derived.Test.YtjfmiomopfjecabGreatWh
import Derived.Test.YtjfmiomopfjecabGreatWi
import Derived.Test.YtjfmiomopfjecabGreatWj
import Derived.Test.YtjfmiomopfjecabGreatWl
/- Asked. -/
namespace Go.Proofs.YtjfmiomopfjecabGreat
open Go.RowKit Go.Lib

set_option maxRecDepth 10000 in
set_option maxHeartbeats 8000000 in
theorem asked_any {W : World} {c : Chg} {j : M.Job} {ex inp : ByteArray} {z : Int} (hz : -9223372036854775808 ≤ z ∧ z ≤ 9223372036854775807)
    (hj : M.JobOk j) (hm : j.man.size ≤ maxLen) (hin : inp.size ≤ maxLen)
    (hbg : ∀ X : World, Calls Tryz.prog 10 #[chgV c, .string inp] X fun e w' => Begun X j ex inp e w') :
    Calls Tryz.prog 6 #[chgV c, .int .i64 z, .string inp] W fun e w' => e = .returned (.bool true) ∧ Below W.heap.size W w' := by
  have HJ := hide hj
  have HM := hide hm
  have HIN := hide hin
  have HBG := hide hbg
  clear hj hm hin hbg
  have HWI : Hid (∀ X : World, Calls Tryz.prog 25 #[.int .i64 z, .int .i64 0, .int .i64 1000] X fun e w' => e = .returned (.int .i64 (inW z 0 1000)) ∧ X = w') := fun X => kWithin_any z 0 1000 X hz.1 hz.2 (by omega) (by omega)
  have hn := (inW_le z (lo := 0) (hi := 1000) (by omega)).2
  generalize inW z 0 1000 = n at *
  clear hz
  go_enter Tryz.func6, Tryz.ntmps6
  go_wp2_with fail
  refine (unhide HBG _).mono ?_
  rintro e w1 ⟨r, b, d1, rfl, hr1, hs1, hb1, hge1, hge2⟩
  have hbW := ((Below.refl W.heap.size W).alloc (Nat.le_refl _) (.cells #[.int .i64 c.i1, .int .i64 c.o1, .string c.t1, .string c.s1, .int .i64 c.i2, .int .i64 c.o2, .string c.t2, .string c.s2, .string c.key, .int .i64 c.base, .int .i64 c.up, .bool c.diffed, .bool c.shown, .string c.ask] 25)).trans (hb1.mono (by simp))
  have hW1 := hbW.size
  have HBW := hide hbW
  have hge : W.heap.size ≤ b := by simp at hge2; omega
  have HR1 := hide hr1
  have HO1 := hide (Only.of (p := (· = b)) (Below.refl w1.heap.size w1))
  obtain ⟨hx1, hf1⟩ := block_facts hr1.run
  clear hr1 hb1 hge1 hge2 hbW HBG
  have HS1 := hide hs1
  have K := hide (unhide HR1).run
  have rule2 : ∀ (X : World) (o : Nat), X.heap[r]? = some (.cells (runC b j ex inp true) 32 (0, 0)) → X.cell? ⟨r, o, none⟩ = (runC b j ex inp true)[o]? := fun X o h => cell_in h o
  clear hs1
  have HOF := hide (fun (X : World) (hX : RunRel X r b j ex inp d1) => offer_st (unhide HJ) (unhide HM) hX (unhide HS1) (by omega))
  go_wp2_with fail
  clear hx1 hf1
  go_region_held3 (fun X => X.heap[r]? = some (.cells (runC b j ex inp true) 32 (0, 0))) (repeat (first | with_reducible exact hC2 | with_reducible exact unhide K | with_reducible refine drew_block ?_)) ((go_at_call 13; refine (unhide HOF _ ((unhide HR1).kept (Below.refl _ _).drew)).mono ?_; rintro y w2 ⟨d2, ⟨rfl, hr2, ho2⟩, hs2, hwt, hnx⟩; have hC2 := hr2.run))
  all_goals
    have HR2 := hide hr2
    have HO2 := hide ((Only.of (p := (· = b)) ((Below.refl w1.heap.size w1).drew)).trans ho2)
    have HS2 := hide hs2
    have HT2 := hide hwt
    have HX2 := hide hnx
    obtain ⟨hx2, hf2⟩ := block_facts hr2.run
    clear hr2 ho2 hs2 hwt hnx hC2 HOF HS1 HR1 HO1 K rule2
    try clear hHeld
    go_wp2_with fail
    refine (unhide HWI _).mono ?_
    rintro e _ ⟨rfl, rfl⟩
    go_wp2_with fail
    go_loopw [9] (fun i wr => ∃ (k : Nat) (d' : M.Dev), k ≤ n ∧ i = .int .i64 ((k : Int) + 1) ∧ RunRel wr r b j ex inp d' ∧ Only (· = b) w1 wr ∧ M.St j d' 1 0 0 false ∧ d'.wait = M.waitN k ∧ d'.next = M.nextN k) (fun i _ => n + 1 - (intOf i).toNat)
    case atStart => exact ⟨0, d2, by omega, rfl, unhide HR2, unhide HO2, unhide HS2, unhide HT2, unhide HX2⟩
    case round =>
      clear HR2 HO2 HS2 HT2 HX2 hx2 hf2
      obtain ⟨k, d3, hk, rfl, hr3, ho3, hs3, hw3, hn3⟩ := hrel
      have HR3 := hide hr3
      have HO3 := hide ho3
      have HS3 := hide hs3
      have HW3 := hide hw3
      have HN3 := hide hn3
      obtain ⟨hx3, hf3⟩ := block_facts hr3.run
      clear hr3 ho3 hw3 hn3 hs3
      by_cases hlt : k < n
      · have hm : ∃ l, M.missing d3.F = 0 :: l := by
          rw [M.st_missing (unhide HJ) (unhide HS3)]
          exact M.missing_first _ _ 0 (by have := (unhide HJ).least; unfold M.chunksN; omega) (by simp) (fun k hk => absurd hk (by omega))
        have HMI := hide hm
        clear hm
        have hst := M.waitN_step k
        have has := M.waitN_asks k
        have HST := hide hst
        clear hst
        have hc : (k = 0 ∨ k = 1 ∨ k = 3) ∨ ((¬ k = 0 ∧ ¬ k = 1 ∧ ¬ k = 3) ∧ (k + 1) % 8 = 0) ∨ ((¬ k = 0 ∧ ¬ k = 1 ∧ ¬ k = 3) ∧ ¬ (k + 1) % 8 = 0) := by omega
        have HC4 : Hid (∀ (want : Int), (if M.waitN k ≤ 1 then (0 : Int) else -1) = want → ∀ X : World, RunRel X r b j ex inp d3 → Calls Tryz.prog 26 #[.pointer (some ⟨r, 0, none⟩), .int .i64 want] X fun e w' => ∃ d', Goes X r b j ex inp d' e w' ∧ M.St j d' 1 0 0 false ∧ d'.wait = M.waitN (k + 1) ∧ d'.next = M.nextN (k + 1)) := by
          intro want hwant X hX
          obtain ⟨l, hl⟩ := unhide HMI
          refine (asks_st (unhide HJ) hX (unhide HS3) hl (want := want) (by rw [HW3.out]; exact hwant)).mono ?_
          rintro e w' ⟨d', a, b, c, dd⟩
          refine ⟨d', a, b, ?_, ?_⟩
          · rw [c, HST.out.1, HW3.out, HN3.out]
          · rw [dd, HST.out.2, HW3.out, HN3.out]
        have HAS := hide has
        clear has HW3 HN3 HST HMI
        rcases hc with (rfl | rfl | rfl) | ⟨⟨a0, a1, a3⟩, h8⟩ | ⟨⟨a0, a1, a3⟩, h8⟩
        · have hlt1 : (1 : Int) ≤ (n : Int) := by omega
          have HC5 := hide (unhide HC4 (0) (by rw [if_pos ((unhide HAS).2 (by omega))]) _ (unhide HR3))
          clear HC4 HAS
          go_wp2_with fail
          with_reducible refine (unhide HC5).mono ?_
          rintro e w4 ⟨d4, ⟨rfl, hr4, ho4⟩, hs4, hw4, hn4⟩
          have HR4 := hide hr4
          have HO4 := hide ((unhide HO3).trans ho4)
          have HW4 := hide hw4
          have HN4 := hide hn4
          clear hr4 ho4 HC5 HR3 HO3 hx3 hf3 hw4 hn4
          go_wp2
          go_roundw
          case rel => exact ⟨1, d4, by omega, by first | go_num | (simp; done) | rfl, unhide HR4, unhide HO4, hs4, unhide HW4, unhide HN4⟩
          case measure => simp [intOf]; try omega
        · have hlt1 : (2 : Int) ≤ (n : Int) := by omega
          have HC5 := hide (unhide HC4 (0) (by rw [if_pos ((unhide HAS).2 (by omega))]) _ (unhide HR3))
          clear HC4 HAS
          go_wp2_with fail
          with_reducible refine (unhide HC5).mono ?_
          rintro e w4 ⟨d4, ⟨rfl, hr4, ho4⟩, hs4, hw4, hn4⟩
          have HR4 := hide hr4
          have HO4 := hide ((unhide HO3).trans ho4)
          have HW4 := hide hw4
          have HN4 := hide hn4
          clear hr4 ho4 HC5 HR3 HO3 hx3 hf3 hw4 hn4
          go_wp2
          go_roundw
          case rel => exact ⟨2, d4, by omega, by first | go_num | (simp; done) | rfl, unhide HR4, unhide HO4, hs4, unhide HW4, unhide HN4⟩
          case measure => simp [intOf]; try omega
        · have hlt1 : (4 : Int) ≤ (n : Int) := by omega
          have HC5 := hide (unhide HC4 (0) (by rw [if_pos ((unhide HAS).2 (by omega))]) _ (unhide HR3))
          clear HC4 HAS
          go_wp2_with fail
          with_reducible refine (unhide HC5).mono ?_
          rintro e w4 ⟨d4, ⟨rfl, hr4, ho4⟩, hs4, hw4, hn4⟩
          have HR4 := hide hr4
          have HO4 := hide ((unhide HO3).trans ho4)
          have HW4 := hide hw4
          have HN4 := hide hn4
          clear hr4 ho4 HC5 HR3 HO3 hx3 hf3 hw4 hn4
          go_wp2
          go_roundw
          case rel => exact ⟨4, d4, by omega, by first | go_num | (simp; done) | rfl, unhide HR4, unhide HO4, hs4, unhide HW4, unhide HN4⟩
          case measure => simp [intOf]; try omega
        · have hlt1 : (k : Int) + 1 ≤ (n : Int) := by omega
          have b0 : ¬ (k : Int) + 1 = 1 := by omega
          have b1 : ¬ (k : Int) + 1 = 2 := by omega
          have b3 : ¬ (k : Int) + 1 = 4 := by omega
          have b8 : ((k : Int) + 1).tmod 8 = 0 := by rw [Int.tmod_eq_emod_of_nonneg (by omega)]; omega
          have HC5 := hide (unhide HC4 (0) (by rw [if_pos ((unhide HAS).2 (by omega))]) _ (unhide HR3))
          clear HC4 HAS
          go_wp2_with fail
          with_reducible refine (unhide HC5).mono ?_
          rintro e w4 ⟨d4, ⟨rfl, hr4, ho4⟩, hs4, hw4, hn4⟩
          have HR4 := hide hr4
          have HO4 := hide ((unhide HO3).trans ho4)
          have HW4 := hide hw4
          have HN4 := hide hn4
          clear hr4 ho4 HC5 HR3 HO3 hx3 hf3 hw4 hn4
          go_wp2
          go_roundw
          case rel => exact ⟨k + 1, d4, by omega, by first | go_num | (simp; done) | rfl, unhide HR4, unhide HO4, hs4, unhide HW4, unhide HN4⟩
          case measure => simp [intOf]; try omega
        · have hlt1 : (k : Int) + 1 ≤ (n : Int) := by omega
          have b0 : ¬ (k : Int) + 1 = 1 := by omega
          have b1 : ¬ (k : Int) + 1 = 2 := by omega
          have b3 : ¬ (k : Int) + 1 = 4 := by omega
          have b8 : ¬ ((k : Int) + 1).tmod 8 = 0 := by rw [Int.tmod_eq_emod_of_nonneg (by omega)]; omega
          have HC5 := hide (unhide HC4 (-1) (by rw [if_neg (fun hh => absurd ((unhide HAS).1 hh) (by omega))]) _ (unhide HR3))
          clear HC4 HAS
          go_wp2_with fail
          · exfalso
            have hh : ((((k : Int) + 1 == 1) = true ∨ ((k : Int) + 1 == 2) = true) ∨ ((k : Int) + 1 == 4) = true) ∨ (((k : Int) + 1) % 8 == 0) = true := by assumption
            simp only [beq_iff_eq] at hh
            omega
          with_reducible refine (unhide HC5).mono ?_
          rintro e w4 ⟨d4, ⟨rfl, hr4, ho4⟩, hs4, hw4, hn4⟩
          have HR4 := hide hr4
          have HO4 := hide ((unhide HO3).trans ho4)
          have HW4 := hide hw4
          have HN4 := hide hn4
          clear hr4 ho4 HC5 HR3 HO3 hx3 hf3 hw4 hn4
          go_wp2
          go_roundw
          case rel => exact ⟨k + 1, d4, by omega, by first | go_num | (simp; done) | rfl, unhide HR4, unhide HO4, hs4, unhide HW4, unhide HN4⟩
          case measure => simp [intOf]; try omega
      · have hkn : k = n := by omega
        subst hkn
        clear hlt
        have hgt : ¬ ((k : Int) + 1 ≤ (k : Int)) := by omega
        have HB := hide ((unhide HBW).trans ((unhide HO3).below (B := W.heap.size) hW1 fun q hq => by rw [hq]; exact hge))
        go_wp2
        go_ret
        exact ⟨rfl, unhide HB⟩
end Go.Proofs.YtjfmiomopfjecabGreat

/- What is refused: a text in which one byte is another. In plain words. -/
namespace Go.Proofs.YtjfmiomopfjecabGreat.M

/-- a text with one byte changed -/
def bentT (s : ByteArray) (i x : Nat) : ByteArray := mk s.size fun k => if k = i then bz s k ^^^ x else bz s k
theorem bentT_size (s : ByteArray) (i x : Nat) : (bentT s i x).size = s.size := mk_size _ _
theorem bent_lt {s : ByteArray} {x : Nat} (hx : x < 256) (k : Nat) : bz s k ^^^ x < 256 := Nat.xor_lt_two_pow (n := 8) (bz_lt s k) hx
theorem bentT_bz {s : ByteArray} {i x k : Nat} (hx : x < 256) (hk : k < s.size) : bz (bentT s i x) k = if k = i then bz s k ^^^ x else bz s k :=
  bz_mk (fun k _ => by
    split
    · exact bent_lt hx k
    · exact bz_lt s k) hk
theorem xor_ne {a x : Nat} (hx : 1 ≤ x) : a ^^^ x ≠ a := by
  intro h
  have e := congrArg (fun y => a ^^^ y) h
  simp only [Nat.xor_self] at e
  rw [← Nat.xor_assoc, Nat.xor_self, Nat.zero_xor] at e
  omega
theorem range_split {n i : Nat} (hi : i < n) : List.range n = List.range i ++ (i :: (List.range' (i + 1) (n - i - 1))) := by
  rw [List.range_eq_range', List.range_eq_range', show (i :: List.range' (i + 1) (n - i - 1)) = List.range' i (n - i) from by
    rw [show n - i = (n - i - 1) + 1 from by omega, List.range'_succ]
    rfl]
  have := List.range'_append (s := 0) (m := i) (n := n - i) (step := 1)
  rw [show 0 + 1 * i = i from by omega, show i + (n - i) = n from by omega] at this
  exact this.symm
theorem mk_list (n : Nat) (f : Nat → Nat) : (mk n f).data.toList = (List.range n).map fun k => UInt8.ofNat (f k) := by
  unfold mk bytesOf
  simp [Function.comp_def]
theorem data_append (a b : ByteArray) : (a ++ b).data.toList = a.data.toList ++ b.data.toList := by simp
theorem crc_mk (pre : List UInt8) {n : Nat} {f g : Nat → Nat} {i : Nat} (hi : i < n) (hf : f i < 256) (hg : g i < 256) (hne : f i ≠ g i) (heq : ∀ k, k < n → k ≠ i → f k = g k) :
    crc (pre ++ (mk n f).data.toList) ≠ crc (pre ++ (mk n g).data.toList) := by
  intro h
  have e1 : (List.range i).map (fun k => UInt8.ofNat (f k)) = (List.range i).map fun k => UInt8.ofNat (g k) := List.map_congr_left fun k hk => by
    rw [List.mem_range] at hk
    rw [heq k (by omega) (by omega)]
  have e2 : (List.range' (i + 1) (n - i - 1)).map (fun k => UInt8.ofNat (f k)) = (List.range' (i + 1) (n - i - 1)).map fun k => UInt8.ofNat (g k) := List.map_congr_left fun k hk => by
    rw [List.mem_range'_1] at hk
    rw [heq k (by omega) (by omega)]
  rw [mk_list, mk_list, range_split hi, List.map_append, List.map_append, List.map_cons, List.map_cons, e1, e2, ← List.append_assoc, ← List.append_assoc] at h
  refine crc_tells _ _ (fun hh => ?_) h
  have := congrArg UInt8.toNat hh
  rw [UInt8.toNat_ofNat', UInt8.toNat_ofNat'] at this
  omega
theorem bent_crc {s : ByteArray} {i x : Nat} (hi : i < s.size) (h1 : 1 ≤ x) (hx : x < 256) : crc (bentT s i x).data.toList ≠ crc s.data.toList := by
  have e : s = mk s.size (bz s) := by
    have := extract_mk s 0 s.size (by omega)
    simp only [Nat.zero_add] at this
    rw [← this]
    exact (ByteArray.extract_zero_size ..).symm
  conv => rhs; rw [e]
  have := crc_mk [] (f := fun k => if k = i then bz s k ^^^ x else bz s k) (g := bz s) hi (by rw [if_pos rfl]; exact bent_lt hx i) (bz_lt s i) (by rw [if_pos rfl]; exact xor_ne h1) (fun k _ hk => by rw [if_neg hk])
  simpa [bentT] using this
/-- a manifest with one byte changed is none -/
theorem bent_man {key s : ByteArray} {i x : Nat} (h : isManifest key s = true) (hi : i < s.size) (h1 : 1 ≤ x) (hx : x < 256) : isManifest key (bentT s i x) = false := by
  rcases hb : isManifest key (bentT s i x) with _ | _
  · rfl
  · exfalso
    obtain ⟨a, _, ha2, ha3⟩ := man_seal h
    obtain ⟨b, _, hb2, hb3⟩ := man_seal hb
    rw [bentT_size] at hb2
    have hab : b = a := by omega
    subst hab
    rw [bentT_bz hx (by omega), bentT_bz hx (by omega)] at hb3
    by_cases hlt : i < b
    · rw [if_neg (by omega), if_neg (by omega), ha3] at hb3
      have hh : (mk b (bz (bentT s i x))) = mk b fun k => if k = i then bz s k ^^^ x else bz s k := mk_congr fun k hk => bentT_bz hx (by omega)
      rw [hh, data_append, data_append] at hb3
      refine crc_mk key.data.toList (f := fun k => if k = i then bz s k ^^^ x else bz s k) (g := bz s) hlt ?_ (bz_lt s i) ?_ (fun k _ hk => by rw [if_neg hk]) hb3.symm
      · rw [if_pos rfl]; exact bent_lt hx i
      · rw [if_pos rfl]; exact xor_ne h1
    · have hh : (mk b (bz (bentT s i x))) = mk b (bz s) := mk_congr fun k hk => by rw [bentT_bz hx (by omega), if_neg (by omega)]
      rw [hh, ← ha3] at hb3
      have l1 := bent_lt (s := s) hx b
      have l2 := bent_lt (s := s) hx (b + 1)
      have n1 := xor_ne (a := bz s b) h1
      have n2 := xor_ne (a := bz s (b + 1)) h1
      have l3 := bz_lt s b
      have l4 := bz_lt s (b + 1)
      have hc : i = b ∨ i = b + 1 := by omega
      rcases hc with rfl | rfl
      · rw [if_pos rfl, if_neg (by omega)] at hb3
        omega
      · rw [if_neg (by omega), if_pos rfl] at hb3
        omega
section
variable {j : Job} {d : Dev} {ph tr th : Nat} {up : Bool}
theorem refuses {k n : Int} {t : ByteArray} {e : Nat} (he : e ≠ 0) (hp : planned d (evW k n t) = fails d e) : doM d (evW k n t) = (d, ⟨e, 0, ⟨#[]⟩, -1⟩) := by
  rw [doM_whole (by show (-1 : Int) < 0; omega), hp]
  have he' : ¬ ((fails d e).err = 0 ∧ (fails d e).on = true) := fun h => he h.1
  rw [if_neg he']
  rfl
theorem st_no_offer (h : St j d ph tr th up) (hp : ph ≠ 2) {t : ByteArray} (hm : isManifest j.key t = false) : doM d (evW 5 0 t) = (d, ⟨13, 0, ⟨#[]⟩, -1⟩) := by
  refine refuses (by omega) ?_
  rw [planned_on h.on (by omega) (by omega), if_neg (by omega), if_neg (by omega), if_pos rfl]
  unfold offers
  rw [if_neg (by rw [h.phase]; exact hp), h.key, if_pos hm]
theorem st_no_version (h : St j d ph tr th false) (hp : ph ≠ 2) {t : ByteArray} (hm : isManifest j.key t = true) (hv : bz t 0 * 256 + bz t 1 ≤ j.base ∨ bz t 2 * 256 + bz t 3 ≠ j.base) : doM d (evW 5 0 t) = (d, ⟨6, 0, ⟨#[]⟩, -1⟩) := by
  refine refuses (by omega) ?_
  have hk : keptV d.F = j.base := h.kept
  rw [planned_on h.on (by omega) (by omega), if_neg (by omega), if_neg (by omega), if_pos rfl]
  unfold offers
  rw [if_neg (by rw [h.phase]; exact hp), h.key, if_neg (by rw [hm]; simp), hk, if_pos hv]
theorem st_busy (h : St j d 2 tr th up) (t : ByteArray) : doM d (evW 5 0 t) = (d, ⟨11, 0, ⟨#[]⟩, -1⟩) := by
  refine refuses (by omega) ?_
  rw [planned_on h.on (by omega) (by omega), if_neg (by omega), if_neg (by omega), if_pos rfl]
  unfold offers
  rw [if_pos h.phase]
theorem st_idle_chunk (h : St j d ph tr th up) (hp : ph ≠ 1) (n : Int) (t : ByteArray) : doM d (evW 6 n t) = (d, ⟨12, 0, ⟨#[]⟩, -1⟩) := by
  refine refuses (by omega) ?_
  rw [planned_on h.on (by omega) (by omega), if_neg (by omega), if_neg (by omega), if_neg (by omega), if_pos rfl]
  unfold takes
  rw [if_pos (by rw [h.phase]; exact hp)]
theorem st_idle_confirm (h : St j d ph tr th up) (hp : ph ≠ 2) : doM d (evW 7 0 ⟨#[]⟩) = (d, ⟨12, 0, ⟨#[]⟩, -1⟩) := by
  refine refuses (by omega) ?_
  rw [planned_on h.on (by omega) (by omega), if_neg (by omega), if_neg (by omega), if_neg (by omega), if_neg (by omega)]
  unfold confirms
  rw [if_pos (by rw [h.phase]; exact hp)]
theorem st_no_chunk (hj : JobOk j) (h : St j d 1 tr th false) {n : Int} {t : ByteArray} (hn : n < 0 ∨ (chunksN j.patch.size : Int) ≤ n ∨ t.size ≠ chunkLen j.patch.size n.toNat ∨ crc t.data.toList ≠ bz j.man (8 + 2 * n.toNat) * 256 + bz j.man (9 + 2 * n.toNat)) :
    doM d (evW 6 n t) = (d, ⟨14, 0, ⟨#[]⟩, -1⟩) := by
  refine refuses (by omega) ?_
  obtain ⟨_, _, hm, _⟩ := h.sj.fetch h.phase
  have hm4 : mf d.F 4 = j.patch.size := by rw [hm 4 (by omega)]; exact hj.m4
  have hc6 : chunksN j.patch.size ≤ 6 := chunks_le hj.most
  rw [planned_on h.on (by omega) (by omega), if_neg (by omega), if_neg (by omega), if_neg (by omega), if_pos rfl]
  unfold takes
  rw [if_neg (by rw [h.phase]; omega), hm4, if_pos]
  by_cases h0 : n < 0 ∨ (chunksN j.patch.size : Int) ≤ n
  · rcases h0 with h0 | h0
    · exact .inl h0
    · exact .inr (.inl h0)
  · have hlt : n.toNat < chunksN j.patch.size := by omega
    rw [hm _ (by omega), hm _ (by omega)]
    exact hn
end
end Go.Proofs.YtjfmiomopfjecabGreat.M

/- Manifests that are refused: of other versions, or longer by a byte. -/
namespace Go.Proofs.YtjfmiomopfjecabGreat
open Go.RowKit Go.Lib

theorem sealed_man {j : M.Job} {ex : ByteArray} (m : Made j ex) {ba u : Nat} (hb : ba ≤ 65535) (hu : u ≤ 65535) :
    M.isManifest j.key (sealedT j ex ba u) = true ∧ M.bz (sealedT j ex ba u) 0 * 256 + M.bz (sealedT j ex ba u) 1 = u ∧ M.bz (sealedT j ex ba u) 2 * 256 + M.bz (sealedT j ex ba u) 3 = ba := by
  have hn := M.image_size m.ok.now
  have hp := m.ok.most
  have hp1 := m.ok.least
  have hL : ∀ x ∈ headL j ba u ++ chL j (M.chunksN j.patch.size), x < 256 := by
    intro x hx
    rcases List.mem_append.1 hx with h | h
    · exact headL_all j hb hu hp (by omega) x h
    · exact chL_all j _ x h
  have hlen : (headL j ba u ++ chL j (M.chunksN j.patch.size)).length = 8 + 2 * M.chunksN j.patch.size := by rw [List.length_append, chL_length]; rfl
  have hlo : ∀ i, i < 8 → M.bz (sealedT j ex ba u) i = (headL j ba u ++ chL j (M.chunksN j.patch.size)).getD i 0 := fun i hi => seal_low hL (by omega)
  refine ⟨seal_man hL (p := j.patch.size) rfl hp1 hp (by show 1 ≤ j.now.size; omega) (by show j.now.size ≤ 96; omega) hlen m.exok rfl, ?_, ?_⟩
  · rw [hlo 0 (by omega), hlo 1 (by omega)]
    show u / 256 * 256 + u % 256 = _
    omega
  · rw [hlo 2 (by omega), hlo 3 (by omega)]
    show ba / 256 * 256 + ba % 256 = _
    omega
theorem bz_out {s : ByteArray} {i : Nat} (h : s.size ≤ i) : M.bz s i = 0 := by
  unfold M.bz
  rw [List.getD_eq_getElem?_getD, List.getElem?_eq_none (by rw [Array.length_toList]; exact h)]
  rfl
theorem longer_bz (s : ByteArray) (i : Nat) : M.bz (s ++ ⟨#[0]⟩) i = M.bz s i := by
  rw [M.bz_append]
  split
  · rfl
  · rename_i h
    rw [bz_out (s := s) (by omega)]
    by_cases e : i = s.size
    · subst e
      rw [Nat.sub_self]
      rfl
    · exact bz_out (by show 1 ≤ i - s.size; omega)
/-- a manifest with one byte more is none -/
theorem longer_man {key s : ByteArray} (h : M.isManifest key s = true) : M.isManifest key (s ++ ⟨#[0]⟩) = false := by
  rcases hb : M.isManifest key (s ++ ⟨#[0]⟩) with _ | _
  · exact hb
  · exfalso
    obtain ⟨a, ha1, ha2, _⟩ := M.man_seal h
    obtain ⟨b, hb1, hb2, _⟩ := M.man_seal hb
    have hz : (s ++ ⟨#[0]⟩).size = s.size + 1 := by rw [ByteArray.size_append]; rfl
    rw [hz] at hb1 hb2
    have e : M.bz (s ++ ⟨#[0]⟩) = M.bz s := funext fun i => longer_bz s i
    rw [e] at hb1
    have := M.sealOf_more ha1 (L' := s.size + 1) (by omega)
    rw [this] at hb1
    injection hb1 with hb1
    omega
end Go.Proofs.YtjfmiomopfjecabGreat

/- The whole flash of a device that is played; an event that is refused; a text with one byte changed. -/
namespace Go.Proofs.YtjfmiomopfjecabGreat
open Go.RowKit Go.Lib

section
variable {W : World} {r b : Nat} {j : M.Job} {ex inp : ByteArray} {d : M.Dev}
set_option maxRecDepth 10000 in
set_option maxHeartbeats 1000000 in
theorem runPages_any (h : RunRel W r b j ex inp d) (hF : ∀ j, d.F j < 256) :
    Calls Tryz.prog 17 #[.pointer (some ⟨r, 0, none⟩)] W fun e w' => e = .returned (.string (M.mk 368 fun j => d.F (16 * 0 + j))) ∧ W = w' := by
  have HR := hide h
  have HF := hide hF
  obtain ⟨hxr, hfr⟩ := block_facts h.run
  clear h hF
  go_enter Tryz.func17, Tryz.ntmps17
  go_wp2_with fail
  go_loopw [3, 4] (fun v i wr => ∃ (k : Nat) (x : ByteArray), k ≤ 23 ∧ i = .int .i64 k ∧ v = .string x ∧ Hid (x = M.mk (16 * k) fun j => d.F (16 * 0 + j)) ∧ wr = W) (fun _ i _ => 23 - (intOf i).toNat)
  case atStart => exact ⟨0, _, by omega, rfl, rfl, rfl, rfl⟩
  case round =>
    obtain ⟨k, x, hk, rfl, rfl, hx, rfl⟩ := hrel
    have hxs : x.size = 16 * k := by rw [hx.out, M.mk_size]
    by_cases hlt : k < 23
    · have HX := hide (page_more (unhide HF) 0 k (k : Int) (by omega) (by omega))
      have HPG := hide (slotsPage_any (unhide HF) (unhide HR).dev (k : Int))
      have hps := pageT_le d.F (k : Int)
      generalize pageT d.F (k : Int) = pg at *
      go_wp2_with fail
      refine (unhide HPG).mono ?_
      rintro e w' ⟨rfl, rfl⟩
      go_wp2
      go_roundw
      case rel => exact ⟨k + 1, x ++ pg, by omega, by go_num, rfl, by show _ = _; rw [hx.out]; exact HX.out, trivial⟩
      case measure => simp [intOf]; omega
    · have hk6 : k = 23 := by omega
      subst hk6
      have HE : Hid (x = M.mk 368 fun j => d.F (16 * 0 + j)) := hx.out
      clear hlt hx
      go_wp2
      go_ret
      exact ⟨ret_string HE.out, rfl⟩
set_option maxRecDepth 10000 in
set_option maxHeartbeats 1000000 in
theorem runRefused_any (h : RunRel W r b j ex inp d) (k n : Int) (tx : ByteArray) (er : Nat) (ht : tx.size ≤ maxLen) (hrp : M.doM d ⟨k, n, tx, -1, 0⟩ = (d, ⟨er, 0, ⟨#[]⟩, -1⟩)) :
    Calls Tryz.prog 18 #[.pointer (some ⟨r, 0, none⟩), .int .i64 k, .int .i64 n, .string tx, .int .i64 er] W fun e w' => Goes W r b j ex inp d e w' := by
  have HR := hide h
  have HDO := hide (runDo_any h ⟨k, n, tx, -1, 0⟩ ht)
  have HRP := hide hrp
  clear h hrp ht
  go_enter Tryz.func18, Tryz.ntmps18
  go_wp2_with fail
  refine (unhide HDO).mono ?_
  intro y w1 hpl
  have hrel := (unhide HR).does hpl
  obtain ⟨hy, hr1, ho1⟩ := hpl
  rw [HRP.out] at hy hrel
  subst hy
  have HRL := hide hrel
  have HOL1 := hide ho1
  clear hrel hr1 ho1 HDO
  go_wp2_with fail
  refine (must_true _ _).mono ?_
  rintro e w' ⟨rfl, rfl⟩
  go_wp2
  refine bodyPost_end (v := .tuple #[]) (by simp [results, Tryz.results18, go_sem]) rfl ⟨rfl, (unhide HRL).kept ((Below.refl _ _).alloc (Nat.le_refl _) _), ?_⟩
  have HOL := HOL1
  repeat (first | with_reducible exact unhide HOL | with_reducible refine ol_drew ?_ | with_reducible refine ol_dev ?_ | (with_reducible refine ol_set ?_ ?_; (focus (first | omega | (simp; done) | (simp; omega)))) | with_reducible refine ol_alloc ?_ | with_reducible refine ol_via (unhide HB6) ?_ | with_reducible refine ol_via (unhide HB7) ?_)
end
end Go.Proofs.YtjfmiomopfjecabGreat

/- A text with one byte changed, as the law changes it. -/
namespace Go.Proofs.YtjfmiomopfjecabGreat
open Go.RowKit Go.Lib

theorem ofInt_u8 (a : Nat) (ha : a < 256) : (BitVec.ofInt 8 (a : Int)).toNat = a := by
  simp
  omega
theorem xor_u8 (a b : Nat) (ha : a < 256) (hb : b < 256) : bits .xor .u8 (a : Int) (b : Int) = ((a ^^^ b : Nat) : Int) := by
  have hx : a ^^^ b < 2 ^ 8 := Nat.xor_lt_two_pow (by omega) (by omega)
  show IntKind.u8.wrap ((BitVec.ofInt 8 (a : Int) ^^^ BitVec.ofInt 8 (b : Int)).toNat : Int) = _
  rw [BitVec.toNat_xor, ofInt_u8 a ha, ofInt_u8 b hb]
  simp [IntKind.wrap, IntKind.bits, IntKind.signed]
  omega
theorem frozen_out {X : World} {g : Nat} {c : Array Value} {t : TypeId} {n m o : Nat} (h : X.heap[g]? = some (.cells c t (n, m))) (ho : o < n) : X.frozen? ⟨g, o, none⟩ = false := by
  unfold World.frozen?
  rw [h]
  simp
  omega
theorem bytesRow_at (s : ByteArray) (C o : Nat) (ho : o < s.size) : (bytesRow s C)[o]? = some (.int .u8 (M.bz s o)) := by
  unfold bytesRow
  have h1 : o < (s.data.map (fun b => Value.int .u8 b.toNat)).size := by simpa using ho
  rw [Array.getElem?_append_left h1, Array.getElem?_map, Array.getElem?_eq_getElem (by simpa using ho), ← M.bz_at s o ho]
  rfl
theorem back_text (X : World) (g C : Nat) (t : ByteArray) (hc : ∀ o, o < t.size → X.cell? ⟨g, o, none⟩ = some (.int .u8 (M.bz t o))) :
    (convert 79 9 (.slice (some ⟨g, 0, none⟩) t.size C)).run Tryz.prog X = .ok (.string t) X := by
  have hl : t.data.toList.length = t.size := by rw [Array.length_toList]; rfl
  have h := run_convert_bytes_back (P := Tryz.prog) X 79 9 5 ⟨g, 0, none⟩ C t.data.toList Tryz.underlying79 Tryz.underlying5 Tryz.underlying9 (fun j hj => by
    rw [add_at]
    have := hc j (by omega)
    rw [← M.bz_at t j (by omega)] at this
    exact this)
  rw [hl] at h
  exact h
set_option maxRecDepth 10000 in
set_option maxHeartbeats 1000000 in
theorem bent_any (s : ByteArray) (p q : Int) (w : World) (hs1 : 1 ≤ s.size) (hs : s.size ≤ 1000) (hp : -9223372036854775808 ≤ p ∧ p ≤ 9223372036854775807) (hq : -9223372036854775808 ≤ q ∧ q ≤ 9223372036854775807) :
    Calls Tryz.prog 19 #[.string s, .int .i64 p, .int .i64 q] w fun e w' => e = .returned (.string (M.bentT s (M.pk p s.size) (1 + M.pk q 255))) ∧ Below w.heap.size w w' := by
  have HK1 := hide (fun X : World => kPick_any p s.size X hp.1 hp.2 hs1 (by omega))
  have HK2 : Hid (∀ X : World, Calls Tryz.prog 12 #[.int .i64 q, .int .i64 255] X fun e w' => e = .returned (.int .i64 (M.pk q 255)) ∧ X = w') := fun X => kPick_any q 255 X hq.1 hq.2 (by omega) (by omega)
  have hi := M.pk_lt p s.size (by omega)
  have hx := M.pk_lt q 255 (by omega)
  have HCV := hide (fun (X : World) => run_bytes_of_string (P := Tryz.prog) X 9 79 5 s Tryz.underlying9 Tryz.underlying79 Tryz.underlying5)
  have hcv := unhide HCV
  generalize M.pk p s.size = i at *
  generalize M.pk q 255 = x at *
  clear hp hq
  go_enter Tryz.func19, Tryz.ntmps19
  go_wp2_with fail
  refine (unhide HK1 _).mono ?_
  rintro e _ ⟨rfl, rfl⟩
  have qB := drew_block (last_block w (.cells (bytesRow s (grownCap w s.size 0 5)) 5 ((bytesRow s (grownCap w s.size 0 5)).size, (bytesRow s (grownCap w s.size 0 5)).size + 1)) rfl)
  have hcl := fun (o : Nat) (ho : o < s.size) => (cell_in qB o).trans (bytesRow_at s _ o ho)
  have hrs : s.size ≤ (bytesRow s (grownCap w s.size 0 5)).size := by unfold bytesRow; rw [Array.size_append, Array.size_map]; show s.size ≤ s.size + _; omega
  have hfz := frozen_out qB (o := i) (by omega)
  have HB : Hid (Below w.heap.size w ((w.alloc (.cells (bytesRow s (grownCap w s.size 0 5)) 5 ((bytesRow s (grownCap w s.size 0 5)).size, (bytesRow s (grownCap w s.size 0 5)).size + 1))).drew)) := bdrew ((Below.refl _ _).alloc (Nat.le_refl _) _)
  clear HCV hcv HK1 hrs
  generalize ((w.alloc (.cells (bytesRow s (grownCap w s.size 0 5)) 5 ((bytesRow s (grownCap w s.size 0 5)).size, (bytesRow s (grownCap w s.size 0 5)).size + 1))).drew) = X1 at *
  generalize grownCap w s.size 0 5 = C at *
  clear qB
  have hci := hcl i hi
  have HCL := hide hcl
  clear hcl
  have hbl := M.bz_lt s i
  generalize hgb : M.bz s i = bi at *
  have hxr : bits BinOp.xor IntKind.u8 (bi : Int) (1 + (x : Int)) = ((bi ^^^ (1 + x) : Nat) : Int) := (by have := xor_u8 bi (1 + x) (by omega) (by omega); rwa [Int.natCast_add] at this)
  have hw1 : IntKind.i64.wrap (1 + (x : Int)) = 1 + (x : Int) := by rw [IntKind.wrap_i64]; omega
  have hw2 : IntKind.u8.wrap (1 + (x : Int)) = 1 + (x : Int) := by simp [IntKind.wrap, IntKind.bits, IntKind.signed]; omega
  have hi1 : (0 : Int) ≤ (i : Int) := by omega
  have hi2 : (i : Int) < (s.size : Int) := by omega
  go_wp2_with fail
  go_region_law ((go_simp; refine (unhide HK2 _).mono ?_; rintro y wN ⟨rfl, rfl⟩))
  all_goals
    have hcl := unhide HCL
    have hsame := World.cell?_setCell_same X1 ⟨w.heap.size, i, none⟩ (.int .u8 ((bi ^^^ 1 + x : Nat) : Int)) hci
    have hbk := back_text ((X1.setCell ⟨w.heap.size, i, none⟩ (.int .u8 ((bi ^^^ 1 + x : Nat) : Int))).drew) w.heap.size C (M.bentT s i (1 + x)) (fun o ho => by
      rw [M.bentT_size] at ho
      rw [M.bentT_bz (by omega) ho]
      by_cases e : o = i
      · rw [if_pos e, e, hgb]
        exact hsame
      · rw [if_neg e]
        exact (World.cell?_setCell_other X1 ⟨w.heap.size, i, none⟩ ⟨w.heap.size, o, none⟩ _ (by intro hh; simp at hh <;> omega)).trans (hcl o ho))
    rw [M.bentT_size] at hbk
    have HB2 := hide (bdrew (bset (o := i) (v := .int .u8 ((bi ^^^ 1 + x : Nat) : Int)) (Nat.le_refl _) (unhide HB)))
    clear hcl hsame HCL hci hfz HB hxr hw1 hw2
    generalize ((X1.setCell ⟨w.heap.size, i, none⟩ (.int .u8 ((bi ^^^ 1 + x : Nat) : Int))).drew) = X2 at *
    generalize hT : M.bentT s i (1 + x) = T at *
    have HT := hide hT
    clear hT
    go_wp2
    go_ret
    exact ⟨ret_string HT.out.symm, unhide HB2⟩
end Go.Proofs.YtjfmiomopfjecabGreat

/- What is not right is refused, and nothing is written: Refused. -/
namespace Go.Proofs.YtjfmiomopfjecabGreat
open Go.RowKit Go.Lib

theorem runRefused_at {W : World} {r b : Nat} {j : M.Job} {ex inp : ByteArray} {d : M.Dev} (h : RunRel W r b j ex inp d) (k n : Int) (tx : ByteArray) (er : Nat) (e : Int) (he : e = er) (ht : tx.size ≤ maxLen) (hrp : M.doM d ⟨k, n, tx, -1, 0⟩ = (d, ⟨er, 0, ⟨#[]⟩, -1⟩)) :
    Calls Tryz.prog 18 #[.pointer (some ⟨r, 0, none⟩), .int .i64 k, .int .i64 n, .string tx, .int .i64 e] W fun e w' => Goes W r b j ex inp d e w' := by
  subst he
  exact runRefused_any h k n tx er ht hrp
set_option maxRecDepth 10000 in
set_option maxHeartbeats 8000000 in
theorem refused_any {W : World} {c : Chg} {j : M.Job} {ex inp : ByteArray} {p q : Int} (hp : -9223372036854775808 ≤ p ∧ p ≤ 9223372036854775807) (hq : -9223372036854775808 ≤ q ∧ q ≤ 9223372036854775807)
    (m : Made j ex) (hin : inp.size ≤ maxLen)
    (hbg : ∀ X : World, Calls Tryz.prog 10 #[chgV c, .string inp] X fun e w' => Begun X j ex inp e w') :
    Calls Tryz.prog 5 #[chgV c, .int .i64 p, .int .i64 q, .string inp] W fun e w' => e = .returned (.bool true) ∧ Below W.heap.size W w' := by
  have HJ := hide m.ok
  have HMS := hide m.size
  have HIN := hide hin
  have HBG := hide hbg
  have hms := M.man_size m.ok.man
  have hms1 : 1 ≤ j.man.size := by obtain ⟨_, _, h, _⟩ := M.man_seal m.ok.man; omega
  have hn1 : 1 ≤ M.chunksN j.patch.size := by have := m.ok.least; unfold M.chunksN; omega
  have hn6 : M.chunksN j.patch.size ≤ 6 := by have := m.ok.most; unfold M.chunksN; omega
  have hbu : j.base < j.up ∧ j.up ≤ 65535 := ⟨m.ok.less, m.ok.top⟩
  have hnow := M.image_size m.ok.now
  have hpm := m.ok.most
  have hex : ex.size ≤ 1000 := by rcases m.exok with ⟨h, _⟩ | ⟨_, _, h1, h2, h3⟩ <;> omega
  have hky := m.key
  -- texts that are refused
  have HB1 := hide (fun X : World => bent_any j.man p q X hms1 (by omega) hp hq)
  have hi1 := M.pk_lt p j.man.size (by omega)
  have hx1 := M.pk_lt q 255 (by omega)
  have HN1 := hide (M.bent_man m.ok.man hi1 (x := 1 + M.pk q 255) (by omega) (by omega))
  have hz1 : (M.bentT j.man (M.pk p j.man.size) (1 + M.pk q 255)).size ≤ maxLen := by rw [M.bentT_size]; unfold maxLen; omega
  have HZ1 := hide hz1
  generalize M.bentT j.man (M.pk p j.man.size) (1 + M.pk q 255) = T1 at *
  have HN2 := hide (longer_man m.ok.man)
  have HZ2 : Hid ((j.man ++ ⟨#[0]⟩).size ≤ maxLen) := by show _ ≤ _; rw [ByteArray.size_append]; show _ + 1 ≤ _; unfold maxLen; omega
  have kz2 : ¬ 9223372036854775807 < j.man.size + 1 := by omega
  have HS3 : Hid (∀ X : World, Calls Tryz.prog 20 #[jobV j ex, .int .i64 j.base, .int .i64 j.base] X fun e w' => e = .returned (.string (sealedT j ex j.base j.base)) ∧ Below X.heap.size X w') := fun X => sealed_any j ex j.base j.base X (by omega) (by omega) hpm (by omega) hky hex
  have HN3 := hide (sealed_man m (ba := j.base) (u := j.base) (by omega) (by omega))
  have HZ3 : Hid ((sealedT j ex j.base j.base).size ≤ maxLen) := by show _ ≤ _; have := M.man_size (unhide HN3).1; unfold maxLen; omega
  generalize sealedT j ex j.base j.base = T3 at *
  have HS4 : Hid (∀ X : World, Calls Tryz.prog 20 #[jobV j ex, .int .i64 ((j.base : Int) + 1), .int .i64 j.up] X fun e w' => e = .returned (.string (sealedT j ex (j.base + 1) j.up)) ∧ Below X.heap.size X w') := fun X => sealed_any j ex (j.base + 1) j.up X (by omega) (by omega) hpm (by omega) hky hex
  have HN4 := hide (sealed_man m (ba := j.base + 1) (u := j.up) (by omega) (by omega))
  have HZ4 : Hid ((sealedT j ex (j.base + 1) j.up).size ≤ maxLen) := by show _ ≤ _; have := M.man_size (unhide HN4).1; unfold maxLen; omega
  generalize sealedT j ex (j.base + 1) j.up = T4 at *
  have HS5 : Hid (∀ X : World, Calls Tryz.prog 21 #[jobV j ex, .int .i64 0] X fun e w' => e = .returned (.string (M.chunkT j 0)) ∧ Below X.heap.size X w') := fun X => jobChunk_any j ex 0 X hpm (by omega)
  have hcz : ∀ i, (M.chunkT j i).size ≤ 16 := fun i => by rw [M.chunk_size]; unfold M.chunkLen; omega
  have HZ5 : Hid ((M.chunkT j 0).size ≤ maxLen) := by show _ ≤ _; have := hcz 0; unfold maxLen; omega
  have HCS := hide (fun X : World => jobChunks_any j ex X hpm)
  have HPK := hide (fun X : World => kPick_any p (M.chunksN j.patch.size) X hp.1 hp.2 hn1 (by omega))
  have hk := M.pk_lt p (M.chunksN j.patch.size) (by omega)
  generalize hK : M.pk p (M.chunksN j.patch.size) = K at *
  have HS6 := hide (fun X : World => jobChunk_any j ex K X hpm (by unfold M.chunksN at hk; omega))
  have hc1 : 1 ≤ (M.chunkT j K).size := by rw [M.chunk_size]; unfold M.chunkLen; unfold M.chunksN at hk; omega
  have HB6 := hide (fun X : World => bent_any (M.chunkT j K) p q X hc1 (by have := hcz K; omega) hp hq)
  have HE6 := hide (M.bent_crc (M.pk_lt p (M.chunkT j K).size (by omega)) (x := 1 + M.pk q 255) (by omega) (by omega))
  have HZ6 : Hid ((M.bentT (M.chunkT j K) (M.pk p (M.chunkT j K).size) (1 + M.pk q 255)).size ≤ maxLen) := by show _ ≤ _; rw [M.bentT_size]; have := hcz K; unfold maxLen; omega
  generalize M.bentT (M.chunkT j K) (M.pk p (M.chunkT j K).size) (1 + M.pk q 255) = T6 at *
  have HCK := hide (m.ok.chunk K (by omega))
  have HZ7 : Hid ((M.chunkT j K ++ ⟨#[0]⟩).size ≤ maxLen ∧ (M.chunkT j K ++ ⟨#[0]⟩).size ≠ M.chunkLen j.patch.size K) := by
    have hz : (M.chunkT j K ++ ⟨#[0]⟩).size = (M.chunkT j K).size + 1 := by rw [ByteArray.size_append]; rfl
    have h2 := M.chunk_size j K
    have := hcz K
    exact ⟨by unfold maxLen; omega, by omega⟩
  have HZ8 : Hid ((M.chunkT j K).size ≤ maxLen) := by show _ ≤ _; have := hcz K; unfold maxLen; omega
  have kz7 : ¬ 9223372036854775807 < (M.chunkT j K).size + 1 := by have := hcz K; omega
  generalize M.chunkT j K = TK at *
  generalize M.chunkT j 0 = T0 at *
  have HNN : Hid ((M.chunksN j.patch.size : Int) ≤ ((M.chunksN j.patch.size : Nat) : Int)) := Int.le_refl _
  have HNO : Hid (∀ (d : M.Dev) (tr th : Nat), M.St j d 1 tr th false → M.doM d (M.evW 6 (M.chunksN j.patch.size : Nat) TK) = (d, ⟨14, 0, ⟨#[]⟩, -1⟩)) := fun d tr th h => M.st_no_chunk (unhide HJ) h (.inr (.inl (Int.le_refl _)))
  have HM1 : Hid (∀ (d : M.Dev) (tr th : Nat), M.St j d 1 tr th false → M.doM d (M.evW 6 (-1) T0) = (d, ⟨14, 0, ⟨#[]⟩, -1⟩)) := fun d tr th h => M.st_no_chunk (unhide HJ) h (.inl (by omega))
  have HM6 : Hid (∀ (d : M.Dev) (tr th : Nat), M.St j d 1 tr th false → M.doM d (M.evW 6 (K : Nat) T6) = (d, ⟨14, 0, ⟨#[]⟩, -1⟩)) := fun d tr th h => M.st_no_chunk (unhide HJ) h (.inr (.inr (.inr (by
    show M.crc T6.data.toList ≠ M.bz j.man (8 + 2 * (K : Int).toNat) * 256 + M.bz j.man (9 + 2 * (K : Int).toNat)
    rw [show (K : Int).toNat = K from rfl, HCK.out]
    exact unhide HE6))))
  have HM7 : Hid (∀ (d : M.Dev) (tr th : Nat), M.St j d 1 tr th false → M.doM d (M.evW 6 (K : Nat) (TK ++ ⟨#[0]⟩)) = (d, ⟨14, 0, ⟨#[]⟩, -1⟩)) := fun d tr th h => M.st_no_chunk (unhide HJ) h (.inr (.inr (.inl (unhide HZ7).2)))
  generalize hT7 : TK ++ ⟨#[0]⟩ = T7 at *
  have HT7 := hide hT7
  clear hT7
  generalize M.chunksN j.patch.size = nc at *
  have hbb : j.base ≤ 65534 := by omega
  clear hp hq hi1 hx1 hz1 hK hc1 hcz hbu hnow hpm hex hky m HCK HE6 HNN hbg hin hms hms1
  go_enter Tryz.func5, Tryz.ntmps5
  go_wp2_with fail
  refine (unhide HBG _).mono ?_
  rintro e w1 ⟨r, b, d1, rfl, hr1, hs1, hb1, hge1, hge2⟩
  have hbW := ((Below.refl W.heap.size W).alloc (Nat.le_refl _) (.cells #[.int .i64 c.i1, .int .i64 c.o1, .string c.t1, .string c.s1, .int .i64 c.i2, .int .i64 c.o2, .string c.t2, .string c.s2, .string c.key, .int .i64 c.base, .int .i64 c.up, .bool c.diffed, .bool c.shown, .string c.ask] 25)).trans (hb1.mono (by simp))
  have hW1 := hbW.size
  have HBW := hide hbW
  have hge : W.heap.size ≤ b := by simp at hge2; omega
  have HR1 := hide hr1
  have HO1 := hide (Only.of (p := (· = b)) (Below.refl w1.heap.size w1))
  obtain ⟨hx1, hf1⟩ := block_facts hr1.run
  clear hr1 hb1 hge1 hge2 hbW HBG
  have HS1 := hide hs1
  have HP1 : Hid (∀ X : World, RunRel X r b j ex inp d1 → Calls Tryz.prog 17 #[.pointer (some ⟨r, 0, none⟩)] X fun e w' => e = .returned (.string (M.mk 368 fun j => d1.F (16 * 0 + j))) ∧ X = w') := fun X hX => runPages_any hX hs1.inv.2.1.bytes
  generalize (M.mk 368 fun j => d1.F (16 * 0 + j)) = F1 at *
  clear hs1
  have hgb : ¬ w1.heap.size = b := by have := (unhide HR1).lt; omega
  have hrg : r < w1.heap.size := (Array.getElem?_eq_some_iff.1 (unhide HR1).run).1
  go_wp2_with fail
  have HR2 : Hid (RunRel (w1.alloc (.cells #[.string j.key, .string j.old, .string j.now, .int .i64 j.base, .int .i64 j.up, .string j.patch, .string ex, .string j.man] 30)) r b j ex inp d1) := (unhide HR1).kept ((Below.refl _ _).alloc (Nat.le_refl _) _)
  have HO2 : Hid (Only (· = b) w1 (w1.alloc (.cells #[.string j.key, .string j.old, .string j.now, .int .i64 j.base, .int .i64 j.up, .string j.patch, .string ex, .string j.man] 30))) := (unhide HO1).trans (Only.of ((Below.refl _ _).alloc (Nat.le_refl _) _))
  have KB2 : Hid ((w1.alloc (.cells #[.string j.key, .string j.old, .string j.now, .int .i64 j.base, .int .i64 j.up, .string j.patch, .string ex, .string j.man] 30)).heap[w1.heap.size]? = some (.cells #[.string j.key, .string j.old, .string j.now, .int .i64 j.base, .int .i64 j.up, .string j.patch, .string ex, .string j.man] 30 (0, 0))) := last_block _ _ rfl
  clear HR1 HO1 hx1 hf1
  generalize (w1.alloc (.cells #[.string j.key, .string j.old, .string j.now, .int .i64 j.base, .int .i64 j.up, .string j.patch, .string ex, .string j.man] 30)) = w2 at *
  obtain ⟨hx2, hf2⟩ := block_facts (unhide HR2).run
  obtain ⟨hy2, hz2⟩ := block_facts (unhide KB2)
  have hgl2 := (Array.getElem?_eq_some_iff.1 (unhide KB2)).1
  have hrl2 := (unhide HR2).lt
  with_reducible refine (unhide HP1 _ (unhide HR2)).mono ?_
  rintro e _ ⟨rfl, rfl⟩
  go_wp2_with fail
  with_reducible refine (unhide HB1 _).mono ?_
  rintro e w3 ⟨rfl, hb3⟩
  have HR3 := hide ((unhide HR2).kept hb3)
  have HO3 := hide ((unhide HO2).trans (Only.of hb3))
  have KB3 : Hid (w3.heap[w1.heap.size]? = some (.cells #[.string j.key, .string j.old, .string j.now, .int .i64 j.base, .int .i64 j.up, .string j.patch, .string ex, .string j.man] 30 (0, 0))) := kept_block hb3 (unhide KB2)
  clear hb3 HR2 HO2 KB2 hx2 hf2 hy2 hz2 hgl2 hrl2
  obtain ⟨hx3, hf3⟩ := block_facts (unhide HR3).run
  obtain ⟨hy3, hz3⟩ := block_facts (unhide KB3)
  have hgl3 := (Array.getElem?_eq_some_iff.1 (unhide KB3)).1
  have hrl3 := (unhide HR3).lt
  have HC4 := hide (runRefused_at (unhide HR3) 5 0 T1 13 13 rfl (unhide HZ1) (M.st_no_offer (unhide HS1) (by omega) (unhide HN1)))
  go_wp2_with fail
  with_reducible refine (unhide HC4).mono ?_
  rintro e w4 ⟨rfl, hr4, ho4⟩
  have HR4 := hide hr4
  have HO4 := hide ((unhide HO3).trans ho4)
  have KB4 : Hid (w4.heap[w1.heap.size]? = some (.cells #[.string j.key, .string j.old, .string j.now, .int .i64 j.base, .int .i64 j.up, .string j.patch, .string ex, .string j.man] 30 (0, 0))) := (ho4.block w1.heap.size hgl3 hgb).trans (unhide KB3)
  clear hr4 ho4 HC4 HR3 HO3 KB3 hx3 hf3 hy3 hz3 hgl3 hrl3
  obtain ⟨hx4, hf4⟩ := block_facts (unhide HR4).run
  obtain ⟨hy4, hz4⟩ := block_facts (unhide KB4)
  have hgl4 := (Array.getElem?_eq_some_iff.1 (unhide KB4)).1
  have hrl4 := (unhide HR4).lt
  have HC5 := hide (runRefused_at (unhide HR4) 5 0 (j.man ++ ⟨#[0]⟩) 13 13 rfl (unhide HZ2) (M.st_no_offer (unhide HS1) (by omega) (unhide HN2)))
  go_wp2_with fail
  with_reducible refine (unhide HC5).mono ?_
  rintro e w5 ⟨rfl, hr5, ho5⟩
  have HR5 := hide hr5
  have HO5 := hide ((unhide HO4).trans ho5)
  have KB5 : Hid (w5.heap[w1.heap.size]? = some (.cells #[.string j.key, .string j.old, .string j.now, .int .i64 j.base, .int .i64 j.up, .string j.patch, .string ex, .string j.man] 30 (0, 0))) := (ho5.block w1.heap.size hgl4 hgb).trans (unhide KB4)
  clear hr5 ho5 HC5 HR4 HO4 KB4 hx4 hf4 hy4 hz4 hgl4 hrl4
  obtain ⟨hx5, hf5⟩ := block_facts (unhide HR5).run
  obtain ⟨hy5, hz5⟩ := block_facts (unhide KB5)
  have hgl5 := (Array.getElem?_eq_some_iff.1 (unhide KB5)).1
  have hrl5 := (unhide HR5).lt
  go_wp2_with fail
  with_reducible refine (unhide HS3 _).mono ?_
  rintro e w6 ⟨rfl, hb6⟩
  have HR6 := hide ((unhide HR5).kept hb6)
  have HO6 := hide ((unhide HO5).trans (Only.of hb6))
  have KB6 : Hid (w6.heap[w1.heap.size]? = some (.cells #[.string j.key, .string j.old, .string j.now, .int .i64 j.base, .int .i64 j.up, .string j.patch, .string ex, .string j.man] 30 (0, 0))) := kept_block hb6 (unhide KB5)
  clear hb6 HR5 HO5 KB5 hx5 hf5 hy5 hz5 hgl5 hrl5
  obtain ⟨hx6, hf6⟩ := block_facts (unhide HR6).run
  obtain ⟨hy6, hz6⟩ := block_facts (unhide KB6)
  have hgl6 := (Array.getElem?_eq_some_iff.1 (unhide KB6)).1
  have hrl6 := (unhide HR6).lt
  have HC7 := hide (runRefused_at (unhide HR6) 5 0 T3 6 6 rfl (unhide HZ3) (M.st_no_version (unhide HS1) (by omega) (unhide HN3).1 (.inl (by rw [(unhide HN3).2.1]; exact Nat.le_refl _))))
  go_wp2_with fail
  with_reducible refine (unhide HC7).mono ?_
  rintro e w7 ⟨rfl, hr7, ho7⟩
  have HR7 := hide hr7
  have HO7 := hide ((unhide HO6).trans ho7)
  have KB7 : Hid (w7.heap[w1.heap.size]? = some (.cells #[.string j.key, .string j.old, .string j.now, .int .i64 j.base, .int .i64 j.up, .string j.patch, .string ex, .string j.man] 30 (0, 0))) := (ho7.block w1.heap.size hgl6 hgb).trans (unhide KB6)
  clear hr7 ho7 HC7 HR6 HO6 KB6 hx6 hf6 hy6 hz6 hgl6 hrl6
  obtain ⟨hx7, hf7⟩ := block_facts (unhide HR7).run
  obtain ⟨hy7, hz7⟩ := block_facts (unhide KB7)
  have hgl7 := (Array.getElem?_eq_some_iff.1 (unhide KB7)).1
  have hrl7 := (unhide HR7).lt
  go_wp2_with fail
  with_reducible refine (unhide HS4 _).mono ?_
  rintro e w8 ⟨rfl, hb8⟩
  have HR8 := hide ((unhide HR7).kept hb8)
  have HO8 := hide ((unhide HO7).trans (Only.of hb8))
  have KB8 : Hid (w8.heap[w1.heap.size]? = some (.cells #[.string j.key, .string j.old, .string j.now, .int .i64 j.base, .int .i64 j.up, .string j.patch, .string ex, .string j.man] 30 (0, 0))) := kept_block hb8 (unhide KB7)
  clear hb8 HR7 HO7 KB7 hx7 hf7 hy7 hz7 hgl7 hrl7
  obtain ⟨hx8, hf8⟩ := block_facts (unhide HR8).run
  obtain ⟨hy8, hz8⟩ := block_facts (unhide KB8)
  have hgl8 := (Array.getElem?_eq_some_iff.1 (unhide KB8)).1
  have hrl8 := (unhide HR8).lt
  have HC9 := hide (runRefused_at (unhide HR8) 5 0 T4 6 6 rfl (unhide HZ4) (M.st_no_version (unhide HS1) (by omega) (unhide HN4).1 (.inr (by rw [(unhide HN4).2.2]; omega))))
  go_wp2_with fail
  with_reducible refine (unhide HC9).mono ?_
  rintro e w9 ⟨rfl, hr9, ho9⟩
  have HR9 := hide hr9
  have HO9 := hide ((unhide HO8).trans ho9)
  have KB9 : Hid (w9.heap[w1.heap.size]? = some (.cells #[.string j.key, .string j.old, .string j.now, .int .i64 j.base, .int .i64 j.up, .string j.patch, .string ex, .string j.man] 30 (0, 0))) := (ho9.block w1.heap.size hgl8 hgb).trans (unhide KB8)
  clear hr9 ho9 HC9 HR8 HO8 KB8 hx8 hf8 hy8 hz8 hgl8 hrl8
  obtain ⟨hx9, hf9⟩ := block_facts (unhide HR9).run
  obtain ⟨hy9, hz9⟩ := block_facts (unhide KB9)
  have hgl9 := (Array.getElem?_eq_some_iff.1 (unhide KB9)).1
  have hrl9 := (unhide HR9).lt
  go_wp2_with fail
  with_reducible refine (unhide HS5 _).mono ?_
  rintro e w10 ⟨rfl, hb10⟩
  have HR10 := hide ((unhide HR9).kept hb10)
  have HO10 := hide ((unhide HO9).trans (Only.of hb10))
  have KB10 : Hid (w10.heap[w1.heap.size]? = some (.cells #[.string j.key, .string j.old, .string j.now, .int .i64 j.base, .int .i64 j.up, .string j.patch, .string ex, .string j.man] 30 (0, 0))) := kept_block hb10 (unhide KB9)
  clear hb10 HR9 HO9 KB9 hx9 hf9 hy9 hz9 hgl9 hrl9
  obtain ⟨hx10, hf10⟩ := block_facts (unhide HR10).run
  obtain ⟨hy10, hz10⟩ := block_facts (unhide KB10)
  have hgl10 := (Array.getElem?_eq_some_iff.1 (unhide KB10)).1
  have hrl10 := (unhide HR10).lt
  have HC11 := hide (runRefused_at (unhide HR10) 6 0 T0 12 12 rfl (unhide HZ5) (M.st_idle_chunk (unhide HS1) (by omega) 0 T0))
  go_wp2_with fail
  with_reducible refine (unhide HC11).mono ?_
  rintro e w11 ⟨rfl, hr11, ho11⟩
  have HR11 := hide hr11
  have HO11 := hide ((unhide HO10).trans ho11)
  have KB11 : Hid (w11.heap[w1.heap.size]? = some (.cells #[.string j.key, .string j.old, .string j.now, .int .i64 j.base, .int .i64 j.up, .string j.patch, .string ex, .string j.man] 30 (0, 0))) := (ho11.block w1.heap.size hgl10 hgb).trans (unhide KB10)
  clear hr11 ho11 HC11 HR10 HO10 KB10 hx10 hf10 hy10 hz10 hgl10 hrl10
  obtain ⟨hx11, hf11⟩ := block_facts (unhide HR11).run
  obtain ⟨hy11, hz11⟩ := block_facts (unhide KB11)
  have hgl11 := (Array.getElem?_eq_some_iff.1 (unhide KB11)).1
  have hrl11 := (unhide HR11).lt
  have HC12 := hide (runRefused_at (unhide HR11) 7 0 ⟨#[]⟩ 12 12 rfl nought_le (M.st_idle_confirm (unhide HS1) (by omega)))
  go_wp2_with fail
  with_reducible refine (unhide HC12).mono ?_
  rintro e w12 ⟨rfl, hr12, ho12⟩
  have HR12 := hide hr12
  have HO12 := hide ((unhide HO11).trans ho12)
  have KB12 : Hid (w12.heap[w1.heap.size]? = some (.cells #[.string j.key, .string j.old, .string j.now, .int .i64 j.base, .int .i64 j.up, .string j.patch, .string ex, .string j.man] 30 (0, 0))) := (ho12.block w1.heap.size hgl11 hgb).trans (unhide KB11)
  clear hr12 ho12 HC12 HR11 HO11 KB11 hx11 hf11 hy11 hz11 hgl11 hrl11
  obtain ⟨hx12, hf12⟩ := block_facts (unhide HR12).run
  obtain ⟨hy12, hz12⟩ := block_facts (unhide KB12)
  have hgl12 := (Array.getElem?_eq_some_iff.1 (unhide KB12)).1
  have hrl12 := (unhide HR12).lt
  go_wp2_with fail
  with_reducible refine (unhide HP1 _ (unhide HR12)).mono ?_
  rintro e _ ⟨rfl, rfl⟩
  go_wp2_with fail
  with_reducible refine (must_true _ _).mono ?_
  rintro e _ ⟨rfl, rfl⟩
  have HC13 := hide (offer_st (unhide HJ) (unhide HMS) (unhide HR12) (unhide HS1) (by omega))
  go_wp2_with fail
  with_reducible refine (unhide HC13).mono ?_
  rintro e w13 ⟨d13, ⟨rfl, hr13, ho13⟩, hs13, hwt, hnx⟩
  have HR13 := hide hr13
  have HO13 := hide ((unhide HO12).trans ho13)
  have KB13 : Hid (w13.heap[w1.heap.size]? = some (.cells #[.string j.key, .string j.old, .string j.now, .int .i64 j.base, .int .i64 j.up, .string j.patch, .string ex, .string j.man] 30 (0, 0))) := (ho13.block w1.heap.size hgl12 hgb).trans (unhide KB12)
  clear hr13 ho13 HC13 HR12 HO12 KB12 hx12 hf12 hy12 hz12 hgl12 hrl12
  obtain ⟨hx13, hf13⟩ := block_facts (unhide HR13).run
  obtain ⟨hy13, hz13⟩ := block_facts (unhide KB13)
  have hgl13 := (Array.getElem?_eq_some_iff.1 (unhide KB13)).1
  have hrl13 := (unhide HR13).lt
  clear hwt hnx
  have HS13 := hide hs13
  have HP13 : Hid (∀ X : World, RunRel X r b j ex inp d13 → Calls Tryz.prog 17 #[.pointer (some ⟨r, 0, none⟩)] X fun e w' => e = .returned (.string (M.mk 368 fun j => d13.F (16 * 0 + j))) ∧ X = w') := fun X hX => runPages_any hX hs13.inv.2.1.bytes
  generalize (M.mk 368 fun j => d13.F (16 * 0 + j)) = F13 at *
  clear hs13
  go_wp2_with fail
  with_reducible refine (unhide HP13 _ (unhide HR13)).mono ?_
  rintro e _ ⟨rfl, rfl⟩
  go_wp2_with fail
  with_reducible refine (unhide HCS _).mono ?_
  rintro e w14 ⟨rfl, hb14⟩
  have HR14 := hide ((unhide HR13).kept hb14)
  have HO14 := hide ((unhide HO13).trans (Only.of hb14))
  have KB14 : Hid (w14.heap[w1.heap.size]? = some (.cells #[.string j.key, .string j.old, .string j.now, .int .i64 j.base, .int .i64 j.up, .string j.patch, .string ex, .string j.man] 30 (0, 0))) := kept_block hb14 (unhide KB13)
  clear hb14 HR13 HO13 KB13 hx13 hf13 hy13 hz13 hgl13 hrl13
  obtain ⟨hx14, hf14⟩ := block_facts (unhide HR14).run
  obtain ⟨hy14, hz14⟩ := block_facts (unhide KB14)
  have hgl14 := (Array.getElem?_eq_some_iff.1 (unhide KB14)).1
  have hrl14 := (unhide HR14).lt
  go_wp2_with fail
  with_reducible refine (unhide HPK _).mono ?_
  rintro e _ ⟨rfl, rfl⟩
  go_wp2_with fail
  with_reducible refine (unhide HS6 _).mono ?_
  rintro e w15 ⟨rfl, hb15⟩
  have HR15 := hide ((unhide HR14).kept hb15)
  have HO15 := hide ((unhide HO14).trans (Only.of hb15))
  have KB15 : Hid (w15.heap[w1.heap.size]? = some (.cells #[.string j.key, .string j.old, .string j.now, .int .i64 j.base, .int .i64 j.up, .string j.patch, .string ex, .string j.man] 30 (0, 0))) := kept_block hb15 (unhide KB14)
  clear hb15 HR14 HO14 KB14 hx14 hf14 hy14 hz14 hgl14 hrl14
  obtain ⟨hx15, hf15⟩ := block_facts (unhide HR15).run
  obtain ⟨hy15, hz15⟩ := block_facts (unhide KB15)
  have hgl15 := (Array.getElem?_eq_some_iff.1 (unhide KB15)).1
  have hrl15 := (unhide HR15).lt
  go_wp2_with fail
  with_reducible refine (unhide HB6 _).mono ?_
  rintro e w16 ⟨rfl, hb16⟩
  have HR16 := hide ((unhide HR15).kept hb16)
  have HO16 := hide ((unhide HO15).trans (Only.of hb16))
  have KB16 : Hid (w16.heap[w1.heap.size]? = some (.cells #[.string j.key, .string j.old, .string j.now, .int .i64 j.base, .int .i64 j.up, .string j.patch, .string ex, .string j.man] 30 (0, 0))) := kept_block hb16 (unhide KB15)
  clear hb16 HR15 HO15 KB15 hx15 hf15 hy15 hz15 hgl15 hrl15
  obtain ⟨hx16, hf16⟩ := block_facts (unhide HR16).run
  obtain ⟨hy16, hz16⟩ := block_facts (unhide KB16)
  have hgl16 := (Array.getElem?_eq_some_iff.1 (unhide KB16)).1
  have hrl16 := (unhide HR16).lt
  have HC17 := hide (runRefused_at (unhide HR16) 6 (K : Nat) T6 14 14 rfl (unhide HZ6) (unhide HM6 _ _ _ (unhide HS13)))
  go_wp2_with fail
  with_reducible refine (unhide HC17).mono ?_
  rintro e w17 ⟨rfl, hr17, ho17⟩
  have HR17 := hide hr17
  have HO17 := hide ((unhide HO16).trans ho17)
  have KB17 : Hid (w17.heap[w1.heap.size]? = some (.cells #[.string j.key, .string j.old, .string j.now, .int .i64 j.base, .int .i64 j.up, .string j.patch, .string ex, .string j.man] 30 (0, 0))) := (ho17.block w1.heap.size hgl16 hgb).trans (unhide KB16)
  clear hr17 ho17 HC17 HR16 HO16 KB16 hx16 hf16 hy16 hz16 hgl16 hrl16
  obtain ⟨hx17, hf17⟩ := block_facts (unhide HR17).run
  obtain ⟨hy17, hz17⟩ := block_facts (unhide KB17)
  have hgl17 := (Array.getElem?_eq_some_iff.1 (unhide KB17)).1
  have hrl17 := (unhide HR17).lt
  go_wp2_with fail
  with_reducible refine (unhide HS6 _).mono ?_
  rintro e w18 ⟨rfl, hb18⟩
  have HR18 := hide ((unhide HR17).kept hb18)
  have HO18 := hide ((unhide HO17).trans (Only.of hb18))
  have KB18 : Hid (w18.heap[w1.heap.size]? = some (.cells #[.string j.key, .string j.old, .string j.now, .int .i64 j.base, .int .i64 j.up, .string j.patch, .string ex, .string j.man] 30 (0, 0))) := kept_block hb18 (unhide KB17)
  clear hb18 HR17 HO17 KB17 hx17 hf17 hy17 hz17 hgl17 hrl17
  obtain ⟨hx18, hf18⟩ := block_facts (unhide HR18).run
  obtain ⟨hy18, hz18⟩ := block_facts (unhide KB18)
  have hgl18 := (Array.getElem?_eq_some_iff.1 (unhide KB18)).1
  have hrl18 := (unhide HR18).lt
  have HC19 := hide (runRefused_at (unhide HR18) 6 (K : Nat) T7 14 14 rfl (unhide HZ7).1 (unhide HM7 _ _ _ (unhide HS13)))
  go_wp2_with fail
  rw [HT7.out]
  with_reducible refine (unhide HC19).mono ?_
  rintro e w19 ⟨rfl, hr19, ho19⟩
  have HR19 := hide hr19
  have HO19 := hide ((unhide HO18).trans ho19)
  have KB19 : Hid (w19.heap[w1.heap.size]? = some (.cells #[.string j.key, .string j.old, .string j.now, .int .i64 j.base, .int .i64 j.up, .string j.patch, .string ex, .string j.man] 30 (0, 0))) := (ho19.block w1.heap.size hgl18 hgb).trans (unhide KB18)
  clear hr19 ho19 HC19 HR18 HO18 KB18 hx18 hf18 hy18 hz18 hgl18 hrl18
  obtain ⟨hx19, hf19⟩ := block_facts (unhide HR19).run
  obtain ⟨hy19, hz19⟩ := block_facts (unhide KB19)
  have hgl19 := (Array.getElem?_eq_some_iff.1 (unhide KB19)).1
  have hrl19 := (unhide HR19).lt
  go_wp2_with fail
  have hG : w19.drew.heap[w1.heap.size]? = some (.cells #[.string j.key, .string j.old, .string j.now, .int .i64 j.base, .int .i64 j.up, .string j.patch, .string ex, .string j.man] 30 (0, 0)) := drew_block (unhide KB19)
  have HRD : Hid (RunRel w19.drew r b j ex inp d13) := (unhide HR19).kept (Below.refl _ _).drew
  have HOD : Hid (Only (· = b) w1 w19.drew) := (unhide HO19).trans (Only.of (Below.refl _ _).drew)
  have HRF : Hid (∀ X : World, RunRel X r b j ex inp d13 → Calls Tryz.prog 18 #[.pointer (some ⟨r, 0, none⟩), .int .i64 6, .int .i64 nc, .string TK, .int .i64 14] X fun e w' => Goes X r b j ex inp d13 e w') := fun X hX => runRefused_at hX 6 (nc : Nat) TK 14 14 rfl (unhide HZ8) (unhide HNO _ _ _ (unhide HS13))
  have rule2 : ∀ (X : World) (o : Nat), X.heap[w1.heap.size]? = some (.cells #[.string j.key, .string j.old, .string j.now, .int .i64 j.base, .int .i64 j.up, .string j.patch, .string ex, .string j.man] 30 (0, 0)) → X.cell? ⟨w1.heap.size, o, none⟩ = (#[.string j.key, .string j.old, .string j.now, .int .i64 j.base, .int .i64 j.up, .string j.patch, .string ex, .string j.man] : Array Value)[o]? := fun X o h => cell_in h o
  clear HR19 HO19 KB19 hx19 hf19 hy19 hz19 hgl19 hrl19
  go_region_held3 (fun X => X.heap[w1.heap.size]? = some (.cells #[.string j.key, .string j.old, .string j.now, .int .i64 j.base, .int .i64 j.up, .string j.patch, .string ex, .string j.man] 30 (0, 0))) (with_reducible exact hG) ((first
    | (go_at_call 23; with_reducible refine (unhide HCS _).mono ?_; rintro y wN ⟨rfl, hbN⟩; have hG : wN.heap[w1.heap.size]? = some (.cells #[.string j.key, .string j.old, .string j.now, .int .i64 j.base, .int .i64 j.up, .string j.patch, .string ex, .string j.man] 30 (0, 0)) := kept_block hbN hG; have HRD := hide ((unhide HRD).kept hbN); have HOD := hide ((unhide HOD).trans (Only.of hbN)))
    | (go_at_call 21; with_reducible refine (unhide HS6 _).mono ?_; rintro y wN ⟨rfl, hbN⟩; have hG : wN.heap[w1.heap.size]? = some (.cells #[.string j.key, .string j.old, .string j.now, .int .i64 j.base, .int .i64 j.up, .string j.patch, .string ex, .string j.man] 30 (0, 0)) := kept_block hbN hG; have HRD := hide ((unhide HRD).kept hbN); have HOD := hide ((unhide HOD).trans (Only.of hbN)))
    | (go_at_call 18; (with_reducible refine (unhide HRF _ (unhide HRD)).mono ?_); rintro y w20 ⟨rfl, hr20, ho20⟩; have hG : w20.heap[w1.heap.size]? = some (.cells #[.string j.key, .string j.old, .string j.now, .int .i64 j.base, .int .i64 j.up, .string j.patch, .string ex, .string j.man] 30 (0, 0)) := (ho20.block w1.heap.size (Array.getElem?_eq_some_iff.1 hG).1 hgb).trans hG)))
  all_goals
    have HR20 := hide hr20
    have HO20 := hide ((unhide HOD).trans ho20)
    have KB20 := hide hG
    clear hr20 ho20 HRD HOD HRF hG rule2
    try clear hHeld
    try clear hbN
    obtain ⟨hx20, hf20⟩ := block_facts (unhide HR20).run
    obtain ⟨hy20, hz20⟩ := block_facts (unhide KB20)
    have hgl20 := (Array.getElem?_eq_some_iff.1 (unhide KB20)).1
    have hrl20 := (unhide HR20).lt
    go_wp2_with fail
    with_reducible refine (unhide HS5 _).mono ?_
    rintro e w21 ⟨rfl, hb21⟩
    have HR21 := hide ((unhide HR20).kept hb21)
    have HO21 := hide ((unhide HO20).trans (Only.of hb21))
    have KB21 : Hid (w21.heap[w1.heap.size]? = some (.cells #[.string j.key, .string j.old, .string j.now, .int .i64 j.base, .int .i64 j.up, .string j.patch, .string ex, .string j.man] 30 (0, 0))) := kept_block hb21 (unhide KB20)
    clear hb21 HR20 HO20 KB20 hx20 hf20 hy20 hz20 hgl20 hrl20
    obtain ⟨hx21, hf21⟩ := block_facts (unhide HR21).run
    obtain ⟨hy21, hz21⟩ := block_facts (unhide KB21)
    have hgl21 := (Array.getElem?_eq_some_iff.1 (unhide KB21)).1
    have hrl21 := (unhide HR21).lt
    have HC22 := hide (runRefused_at (unhide HR21) 6 (-1) T0 14 14 rfl (unhide HZ5) (unhide HM1 _ _ _ (unhide HS13)))
    go_wp2_with fail
    with_reducible refine (unhide HC22).mono ?_
    rintro e w22 ⟨rfl, hr22, ho22⟩
    have HR22 := hide hr22
    have HO22 := hide ((unhide HO21).trans ho22)
    have KB22 : Hid (w22.heap[w1.heap.size]? = some (.cells #[.string j.key, .string j.old, .string j.now, .int .i64 j.base, .int .i64 j.up, .string j.patch, .string ex, .string j.man] 30 (0, 0))) := (ho22.block w1.heap.size hgl21 hgb).trans (unhide KB21)
    clear hr22 ho22 HC22 HR21 HO21 KB21 hx21 hf21 hy21 hz21 hgl21 hrl21
    obtain ⟨hx22, hf22⟩ := block_facts (unhide HR22).run
    obtain ⟨hy22, hz22⟩ := block_facts (unhide KB22)
    have hgl22 := (Array.getElem?_eq_some_iff.1 (unhide KB22)).1
    have hrl22 := (unhide HR22).lt
    go_wp2_with fail
    with_reducible refine (unhide HP13 _ (unhide HR22)).mono ?_
    rintro e _ ⟨rfl, rfl⟩
    go_wp2_with fail
    with_reducible refine (must_true _ _).mono ?_
    rintro e _ ⟨rfl, rfl⟩
    have HC23 := hide (fed_st (unhide HJ) (unhide HR22) (unhide HS13))
    go_wp2_with fail
    with_reducible refine (unhide HC23).mono ?_
    rintro e w23 ⟨d23, tr23, th23, ⟨rfl, hr23, ho23⟩, hs23, ha23⟩
    have HR23 := hide hr23
    have HO23 := hide ((unhide HO22).trans ho23)
    have KB23 : Hid (w23.heap[w1.heap.size]? = some (.cells #[.string j.key, .string j.old, .string j.now, .int .i64 j.base, .int .i64 j.up, .string j.patch, .string ex, .string j.man] 30 (0, 0))) := (ho23.block w1.heap.size hgl22 hgb).trans (unhide KB22)
    clear hr23 ho23 HC23 HR22 HO22 KB22 hx22 hf22 hy22 hz22 hgl22 hrl22
    obtain ⟨hx23, hf23⟩ := block_facts (unhide HR23).run
    obtain ⟨hy23, hz23⟩ := block_facts (unhide KB23)
    have hgl23 := (Array.getElem?_eq_some_iff.1 (unhide KB23)).1
    have hrl23 := (unhide HR23).lt
    have HC24 := hide (install_st (unhide HJ) (unhide HR23) hs23 ha23)
    go_wp2_with fail
    with_reducible refine (unhide HC24).mono ?_
    rintro e w24 ⟨d24, ⟨rfl, hr24, ho24⟩, hs24, hage24⟩
    have HR24 := hide hr24
    have HO24 := hide ((unhide HO23).trans ho24)
    have KB24 : Hid (w24.heap[w1.heap.size]? = some (.cells #[.string j.key, .string j.old, .string j.now, .int .i64 j.base, .int .i64 j.up, .string j.patch, .string ex, .string j.man] 30 (0, 0))) := (ho24.block w1.heap.size hgl23 hgb).trans (unhide KB23)
    clear hr24 ho24 HC24 HR23 HO23 KB23 hx23 hf23 hy23 hz23 hgl23 hrl23
    obtain ⟨hx24, hf24⟩ := block_facts (unhide HR24).run
    obtain ⟨hy24, hz24⟩ := block_facts (unhide KB24)
    have hgl24 := (Array.getElem?_eq_some_iff.1 (unhide KB24)).1
    have hrl24 := (unhide HR24).lt
    clear hs23 ha23 hage24
    have HS24 := hide hs24
    have HP24 : Hid (∀ X : World, RunRel X r b j ex inp d24 → Calls Tryz.prog 17 #[.pointer (some ⟨r, 0, none⟩)] X fun e w' => e = .returned (.string (M.mk 368 fun j => d24.F (16 * 0 + j))) ∧ X = w') := fun X hX => runPages_any hX hs24.inv.2.1.bytes
    generalize (M.mk 368 fun j => d24.F (16 * 0 + j)) = F24 at *
    clear hs24
    go_wp2_with fail
    with_reducible refine (unhide HP24 _ (unhide HR24)).mono ?_
    rintro e _ ⟨rfl, rfl⟩
    have HC25 := hide (runRefused_at (unhide HR24) 5 0 j.man 11 11 rfl (unhide HMS) (M.st_busy (unhide HS24) j.man))
    go_wp2_with fail
    with_reducible refine (unhide HC25).mono ?_
    rintro e w25 ⟨rfl, hr25, ho25⟩
    have HR25 := hide hr25
    have HO25 := hide ((unhide HO24).trans ho25)
    have KB25 : Hid (w25.heap[w1.heap.size]? = some (.cells #[.string j.key, .string j.old, .string j.now, .int .i64 j.base, .int .i64 j.up, .string j.patch, .string ex, .string j.man] 30 (0, 0))) := (ho25.block w1.heap.size hgl24 hgb).trans (unhide KB24)
    clear hr25 ho25 HC25 HR24 HO24 KB24 hx24 hf24 hy24 hz24 hgl24 hrl24
    obtain ⟨hx25, hf25⟩ := block_facts (unhide HR25).run
    obtain ⟨hy25, hz25⟩ := block_facts (unhide KB25)
    have hgl25 := (Array.getElem?_eq_some_iff.1 (unhide KB25)).1
    have hrl25 := (unhide HR25).lt
    go_wp2_with fail
    with_reducible refine (unhide HP24 _ (unhide HR25)).mono ?_
    rintro e _ ⟨rfl, rfl⟩
    go_wp2_with fail
    with_reducible refine (must_true _ _).mono ?_
    rintro e _ ⟨rfl, rfl⟩
    have HC26 := hide (serves_st (unhide HJ) (unhide HR25) (unhide HS24) (unhide HIN))
    rw [show M.verP j 2 false = j.up from by simp [M.verP]] at HC26
    go_wp2_with fail
    with_reducible refine (unhide HC26).mono ?_
    rintro e w26 ⟨rfl, hr26, ho26⟩
    have HR26 := hide hr26
    have HO26 := hide ((unhide HO25).trans ho26)
    have KB26 : Hid (w26.heap[w1.heap.size]? = some (.cells #[.string j.key, .string j.old, .string j.now, .int .i64 j.base, .int .i64 j.up, .string j.patch, .string ex, .string j.man] 30 (0, 0))) := (ho26.block w1.heap.size hgl25 hgb).trans (unhide KB25)
    clear hr26 ho26 HC26 HR25 HO25 KB25 hx25 hf25 hy25 hz25 hgl25 hrl25
    obtain ⟨hx26, hf26⟩ := block_facts (unhide HR26).run
    obtain ⟨hy26, hz26⟩ := block_facts (unhide KB26)
    have hgl26 := (Array.getElem?_eq_some_iff.1 (unhide KB26)).1
    have hrl26 := (unhide HR26).lt
    have HB := hide ((unhide HBW).trans ((unhide HO26).below (B := W.heap.size) hW1 fun q hq => by rw [hq]; exact hge))
    go_wp2
    go_ret
    exact ⟨rfl, unhide HB⟩
end Go.Proofs.YtjfmiomopfjecabGreat

/- Which chunks are there, counted; rows of bools. In plain words. -/
namespace Go.Proofs.YtjfmiomopfjecabGreat
open Go.RowKit Go.Lib

theorem bit_two (x k : Nat) : x / 2 ^ k % 2 = 0 ∨ x / 2 ^ k % 2 = 1 := by omega
theorem withBit_else {x i k : Nat} (hi : i < 6) (hk : k < 6) (hne : k ≠ i) : M.withBit x i / 2 ^ k % 2 = x / 2 ^ k % 2 := by
  by_cases h : x / 2 ^ i % 2 = 1
  · unfold M.withBit
    rw [if_pos h]
  · rcases bit_two x k with e | e
    · rcases bit_two (M.withBit x i) k with e2 | e2
      · rw [e, e2]
      · exfalso
        unfold M.withBit at e2
        rw [if_neg h] at e2
        have := M.bit_set hi hk h e2 hne
        omega
    · rw [e]
      exact withBit_keeps hi hk e
/-- how many are missing -/
def cntM (n th : Nat) : Nat := ((List.range n).filter fun i => decide (th / 2 ^ i % 2 = 0)).length
theorem cntM_zero (n : Nat) : cntM n 0 = n := by
  unfold cntM
  rw [List.filter_eq_self.2 (fun i _ => by simp)]
  exact List.length_range
theorem cntM_with {n th i : Nat} (hn : n ≤ 6) (hi : i < n) (h0 : th / 2 ^ i % 2 = 0) : cntM n (M.withBit th i) + 1 = cntM n th := by
  have hb := withBit_has th i
  unfold cntM
  rw [M.range_split hi, List.filter_append, List.filter_append, List.filter_cons_of_neg (by simp [hb]), List.filter_cons_of_pos (by simp [h0]), List.length_append, List.length_append, List.length_cons]
  have e1 : (List.range i).filter (fun k => decide (M.withBit th i / 2 ^ k % 2 = 0)) = (List.range i).filter fun k => decide (th / 2 ^ k % 2 = 0) := List.filter_congr fun k hk => by
    rw [List.mem_range] at hk
    rw [withBit_else (by omega) (by omega) (by omega)]
  have e2 : (List.range' (i + 1) (n - i - 1)).filter (fun k => decide (M.withBit th i / 2 ^ k % 2 = 0)) = (List.range' (i + 1) (n - i - 1)).filter fun k => decide (th / 2 ^ k % 2 = 0) := List.filter_congr fun k hk => by
    rw [List.mem_range'_1] at hk
    rw [withBit_else (by omega) (by omega) (by omega)]
  rw [e1, e2]
  omega
theorem cntM_same {n th i : Nat} (h1 : th / 2 ^ i % 2 = 1) : cntM n (M.withBit th i) = cntM n th := by
  unfold M.withBit
  rw [if_pos h1]
/-- a row of bools -/
def rowB (f : Nat → Bool) (n : Nat) : Array Value := ((List.range n).map fun k => Value.bool (f k)).toArray
theorem rowB_at (f : Nat → Bool) {n k : Nat} (hk : k < n) : (rowB f n)[k]? = some (.bool (f k)) := by
  unfold rowB
  simp [hk]
theorem rowB_set (f : Nat → Bool) {n k : Nat} : (rowB f n).setIfInBounds k (.bool true) = rowB (fun q => if q = k then true else f q) n := by
  unfold rowB
  refine Array.ext (by simp) fun q h1 h2 => ?_
  simp at h1 h2
  simp
  by_cases e : k = q
  · simp [e]
  · have e' : ¬ q = k := fun h => e h.symm
    simp [e, e']
theorem rowB_congr {f g : Nat → Bool} {n : Nat} (h : ∀ k, k < n → f k = g k) : rowB f n = rowB g n := by
  unfold rowB
  congr 1
  exact List.map_congr_left fun k hk => by rw [List.mem_range] at hk; rw [h k hk]
def bitB (th k : Nat) : Bool := decide (th / 2 ^ k % 2 = 1)
theorem rowB_with {n th i : Nat} (hn : n ≤ 6) (hi : i < n) : rowB (fun q => if q = i then true else bitB th q) n = rowB (bitB (M.withBit th i)) n := rowB_congr fun k hk => by
  unfold bitB
  by_cases e : k = i
  · subst e
    rw [if_pos rfl, withBit_has]
    rfl
  · rw [if_neg e, withBit_else (by omega) (by omega) e]
theorem rowB_kept {n th i : Nat} (h1 : th / 2 ^ i % 2 = 1) : rowB (bitB (M.withBit th i)) n = rowB (bitB th) n := by
  unfold M.withBit
  rw [if_pos h1]
theorem made_rowB (n : Nat) : madeCells (Value.bool false).cells (n * 1) = rowB (bitB 0) n := by
  unfold madeCells rowB
  refine Array.ext (by simp) fun q h1 h2 => ?_
  simp [Value.cells, bitB, Nat.mod_one]
theorem infoBo : (Tryz.prog.info? 4).map (fun i => (i.zero, i.size, i.bytes)) = some (some (.bool false), 1, 1) := by kernel_rfl
set_option maxRecDepth 10000 in
theorem makeB_run (X : World) (n : Nat) (hn : n ≤ 6) : (Instr.makeSlice 50 (.int .i64 n) (.int .i64 n)).run Tryz.prog X = .ok (.slice (some ⟨X.heap.size, 0, none⟩) n n) (X.alloc (.cells (rowB (bitB 0) n) 4)) := by
  obtain ⟨i0, hi, hz0, hz1, hz2⟩ := info_parts infoBo
  have := run_make (P := Tryz.prog) X 50 4 i0 (.bool false) Tryz.underlying50 hi hz0 .i64 .i64 (n : Int) (n : Int) (by omega) (by omega) (by rw [hz2]; omega) (by omega)
  rw [hz1, Int.toNat_natCast, made_rowB] at this
  exact this
section
variable {W : World} {r b : Nat} {j : M.Job} {ex inp : ByteArray} {d : M.Dev}
theorem chunk_wait (hj : M.JobOk j) (h : RunRel W r b j ex inp d) {tr th : Nat} (hs : M.St j d 1 tr th false) {i : Nat} (hi : i < M.chunksN j.patch.size) (h0 : th / 2 ^ i % 2 = 0) :
    Calls Tryz.prog 27 #[.pointer (some ⟨r, 0, none⟩), .int .i64 i] W fun e w' => ∃ d', Goes W r b j ex inp d' e w' ∧ M.St j d' 1 0 (M.withBit th i) false ∧ d'.wait = 0 := by
  obtain ⟨d', hd, hs', _, hw⟩ := M.st_chunk hj hs hi
  rw [if_neg (by omega)] at hw
  have hd' : M.doM d ⟨6, i, M.chunkT j i, -1, 0⟩ = (d', ⟨0, j.base, ⟨#[]⟩, -1⟩) := hd
  have hr := runChunk_any h i hj.most (by unfold M.chunksN at hi; omega) (by rw [hd'])
  rw [hd'] at hr
  exact hr.mono fun e w' hh => ⟨d', hh, hs', hw.1⟩
end
end Go.Proofs.YtjfmiomopfjecabGreat

/- Texts laid together: KeepAsk. -/
import Derived.Test.YtjfmiomopfjecabGreatVl
import Derived.Test.YtjfmiomopfjecabGreatVa
import Derived.Test.YtjfmiomopfjecabGreatVb
import Derived.Test.YtjfmiomopfjecabGreatVc
import Derived.Test.YtjfmiomopfjecabGreatVd
import Derived.Test.YtjfmiomopfjecabGreatVe
import Derived.Test.YtjfmiomopfjecabGreatVf
import Derived.Test.YtjfmiomopfjecabGreatVg
import Derived.Test.YtjfmiomopfjecabGreatVh
import Derived.Test.YtjfmiomopfjecabGreatVi
import Derived.Test.YtjfmiomopfjecabGreatVj
import Derived.Test.YtjfmiomopfjecabGreatVk
/- Asked. -/
namespace Go.Proofs.YtjfmiomopfjecabGreat
open Go.RowKit Go.Lib

set_option maxRecDepth 10000 in
set_option maxHeartbeats 8000000 in
theorem asked_any {W : World} {c : Chg} {j : M.Job} {ex inp : ByteArray} {z : Int} (hz : -9223372036854775808 ≤ z ∧ z ≤ 9223372036854775807)
    (hj : M.JobOk j) (hm : j.man.size ≤ maxLen) (hin : inp.size ≤ maxLen)
    (hbg : ∀ X : World, Calls Tryz.prog 10 #[chgV c, .string inp] X fun e w' => Begun X j ex inp e w') :
    Calls Tryz.prog 6 #[chgV c, .int .i64 z, .string inp] W fun e w' => e = .returned (.bool true) ∧ Below W.heap.size W w' := by
  have HJ := hide hj
  have HM := hide hm
  have HIN := hide hin
  have HBG := hide hbg
  clear hj hm hin hbg
  have HWI : Hid (∀ X : World, Calls Tryz.prog 25 #[.int .i64 z, .int .i64 0, .int .i64 1000] X fun e w' => e = .returned (.int .i64 (inW z 0 1000)) ∧ X = w') := fun X => kWithin_any z 0 1000 X hz.1 hz.2 (by omega) (by omega)
  have hn := (inW_le z (lo := 0) (hi := 1000) (by omega)).2
  generalize inW z 0 1000 = n at *
  clear hz
  go_enter Tryz.func6, Tryz.ntmps6
  go_wp2_with fail
  refine (unhide HBG _).mono ?_
  rintro e w1 ⟨r, b, d1, rfl, hr1, hs1, hb1, hge1, hge2⟩
  have hbW := ((Below.refl W.heap.size W).alloc (Nat.le_refl _) (.cells #[.int .i64 c.i1, .int .i64 c.o1, .string c.t1, .string c.s1, .int .i64 c.i2, .int .i64 c.o2, .string c.t2, .string c.s2, .string c.key, .int .i64 c.base, .int .i64 c.up, .bool c.diffed, .bool c.shown, .string c.ask] 25)).trans (hb1.mono (by simp))
  have hW1 := hbW.size
  have HBW := hide hbW
  have hge : W.heap.size ≤ b := by simp at hge2; omega
  have HR1 := hide hr1
  have HO1 := hide (Only.of (p := (· = b)) (Below.refl w1.heap.size w1))
  obtain ⟨hx1, hf1⟩ := block_facts hr1.run
  clear hr1 hb1 hge1 hge2 hbW HBG
  have HS1 := hide hs1
  have K := hide (unhide HR1).run
  have rule2 : ∀ (X : World) (o : Nat), X.heap[r]? = some (.cells (runC b j ex inp true) 32 (0, 0)) → X.cell? ⟨r, o, none⟩ = (runC b j ex inp true)[o]? := fun X o h => cell_in h o
  clear hs1
  have HOF := hide (fun (X : World) (hX : RunRel X r b j ex inp d1) => offer_st (unhide HJ) (unhide HM) hX (unhide HS1) (by omega))
  go_wp2_with fail
  clear hx1 hf1
  go_region_held3 (fun X => X.heap[r]? = some (.cells (runC b j ex inp true) 32 (0, 0))) (repeat (first | with_reducible exact hC2 | with_reducible exact unhide K | with_reducible refine drew_block ?_)) ((go_at_call 13; refine (unhide HOF _ ((unhide HR1).kept (Below.refl _ _).drew)).mono ?_; rintro y w2 ⟨d2, ⟨rfl, hr2, ho2⟩, hs2, hwt, hnx⟩; have hC2 := hr2.run))
  all_goals
    have HR2 := hide hr2
    have HO2 := hide ((Only.of (p := (· = b)) ((Below.refl w1.heap.size w1).drew)).trans ho2)
    have HS2 := hide hs2
    have HT2 := hide hwt
    have HX2 := hide hnx
    obtain ⟨hx2, hf2⟩ := block_facts hr2.run
    clear hr2 ho2 hs2 hwt hnx hC2 HOF HS1 HR1 HO1 K rule2
    try clear hHeld
    go_wp2_with fail
    refine (unhide HWI _).mono ?_
    rintro e _ ⟨rfl, rfl⟩
    go_wp2_with fail
    go_loopw [9] (fun i wr => ∃ (k : Nat) (d' : M.Dev), k ≤ n ∧ i = .int .i64 ((k : Int) + 1) ∧ RunRel wr r b j ex inp d' ∧ Only (· = b) w1 wr ∧ M.St j d' 1 0 0 false ∧ d'.wait = M.waitN k ∧ d'.next = M.nextN k) (fun i _ => n + 1 - (intOf i).toNat)
    case atStart => exact ⟨0, d2, by omega, rfl, unhide HR2, unhide HO2, unhide HS2, unhide HT2, unhide HX2⟩
    case round =>
      clear HR2 HO2 HS2 HT2 HX2 hx2 hf2
      obtain ⟨k, d3, hk, rfl, hr3, ho3, hs3, hw3, hn3⟩ := hrel
      have HR3 := hide hr3
      have HO3 := hide ho3
      have HS3 := hide hs3
      have HW3 := hide hw3
      have HN3 := hide hn3
      obtain ⟨hx3, hf3⟩ := block_facts hr3.run
      clear hr3 ho3 hw3 hn3 hs3
      by_cases hlt : k < n
      · have hm : ∃ l, M.missing d3.F = 0 :: l := by
          rw [M.st_missing (unhide HJ) (unhide HS3)]
          exact M.missing_first _ _ 0 (by have := (unhide HJ).least; unfold M.chunksN; omega) (by simp) (fun k hk => absurd hk (by omega))
        have HMI := hide hm
        clear hm
        have hst := M.waitN_step k
        have has := M.waitN_asks k
        have HST := hide hst
        clear hst
        have hc : (k = 0 ∨ k = 1 ∨ k = 3) ∨ ((¬ k = 0 ∧ ¬ k = 1 ∧ ¬ k = 3) ∧ (k + 1) % 8 = 0) ∨ ((¬ k = 0 ∧ ¬ k = 1 ∧ ¬ k = 3) ∧ ¬ (k + 1) % 8 = 0) := by omega
        have HC4 : Hid (∀ (want : Int), (if M.waitN k ≤ 1 then (0 : Int) else -1) = want → ∀ X : World, RunRel X r b j ex inp d3 → Calls Tryz.prog 26 #[.pointer (some ⟨r, 0, none⟩), .int .i64 want] X fun e w' => ∃ d', Goes X r b j ex inp d' e w' ∧ M.St j d' 1 0 0 false ∧ d'.wait = M.waitN (k + 1) ∧ d'.next = M.nextN (k + 1)) := by
          intro want hwant X hX
          obtain ⟨l, hl⟩ := unhide HMI
          refine (asks_st (unhide HJ) hX (unhide HS3) hl (want := want) (by rw [HW3.out]; exact hwant)).mono ?_
          rintro e w' ⟨d', a, b, c, dd⟩
          refine ⟨d', a, b, ?_, ?_⟩
          · rw [c, HST.out.1, HW3.out, HN3.out]
          · rw [dd, HST.out.2, HW3.out, HN3.out]
        have HAS := hide has
        clear has HW3 HN3 HST HMI
        rcases hc with (rfl | rfl | rfl) | ⟨⟨a0, a1, a3⟩, h8⟩ | ⟨⟨a0, a1, a3⟩, h8⟩
        · have hlt1 : (1 : Int) ≤ (n : Int) := by omega
          have HC5 := hide (unhide HC4 (0) (by rw [if_pos ((unhide HAS).2 (by omega))]) _ (unhide HR3))
          clear HC4 HAS
          go_wp2_with fail
          with_reducible refine (unhide HC5).mono ?_
          rintro e w4 ⟨d4, ⟨rfl, hr4, ho4⟩, hs4, hw4, hn4⟩
          have HR4 := hide hr4
          have HO4 := hide ((unhide HO3).trans ho4)
          have HW4 := hide hw4
          have HN4 := hide hn4
          clear hr4 ho4 HC5 HR3 HO3 hx3 hf3 hw4 hn4
          go_wp2
          go_roundw
          case rel => exact ⟨1, d4, by omega, by first | go_num | (simp; done) | rfl, unhide HR4, unhide HO4, hs4, unhide HW4, unhide HN4⟩
          case measure => simp [intOf]; try omega
        · have hlt1 : (2 : Int) ≤ (n : Int) := by omega
          have HC5 := hide (unhide HC4 (0) (by rw [if_pos ((unhide HAS).2 (by omega))]) _ (unhide HR3))
          clear HC4 HAS
          go_wp2_with fail
          with_reducible refine (unhide HC5).mono ?_
          rintro e w4 ⟨d4, ⟨rfl, hr4, ho4⟩, hs4, hw4, hn4⟩
          have HR4 := hide hr4
          have HO4 := hide ((unhide HO3).trans ho4)
          have HW4 := hide hw4
          have HN4 := hide hn4
          clear hr4 ho4 HC5 HR3 HO3 hx3 hf3 hw4 hn4
          go_wp2
          go_roundw
          case rel => exact ⟨2, d4, by omega, by first | go_num | (simp; done) | rfl, unhide HR4, unhide HO4, hs4, unhide HW4, unhide HN4⟩
          case measure => simp [intOf]; try omega
        · have hlt1 : (4 : Int) ≤ (n : Int) := by omega
          have HC5 := hide (unhide HC4 (0) (by rw [if_pos ((unhide HAS).2 (by omega))]) _ (unhide HR3))
          clear HC4 HAS
          go_wp2_with fail
          with_reducible refine (unhide HC5).mono ?_
          rintro e w4 ⟨d4, ⟨rfl, hr4, ho4⟩, hs4, hw4, hn4⟩
          have HR4 := hide hr4
          have HO4 := hide ((unhide HO3).trans ho4)
          have HW4 := hide hw4
          have HN4 := hide hn4
          clear hr4 ho4 HC5 HR3 HO3 hx3 hf3 hw4 hn4
          go_wp2
          go_roundw
          case rel => exact ⟨4, d4, by omega, by first | go_num | (simp; done) | rfl, unhide HR4, unhide HO4, hs4, unhide HW4, unhide HN4⟩
          case measure => simp [intOf]; try omega
        · have hlt1 : (k : Int) + 1 ≤ (n : Int) := by omega
          have b0 : ¬ (k : Int) + 1 = 1 := by omega
          have b1 : ¬ (k : Int) + 1 = 2 := by omega
          have b3 : ¬ (k : Int) + 1 = 4 := by omega
          have b8 : ((k : Int) + 1).tmod 8 = 0 := by rw [Int.tmod_eq_emod_of_nonneg (by omega)]; omega
          have HC5 := hide (unhide HC4 (0) (by rw [if_pos ((unhide HAS).2 (by omega))]) _ (unhide HR3))
          clear HC4 HAS
          go_wp2_with fail
          with_reducible refine (unhide HC5).mono ?_
          rintro e w4 ⟨d4, ⟨rfl, hr4, ho4⟩, hs4, hw4, hn4⟩
          have HR4 := hide hr4
          have HO4 := hide ((unhide HO3).trans ho4)
          have HW4 := hide hw4
          have HN4 := hide hn4
          clear hr4 ho4 HC5 HR3 HO3 hx3 hf3 hw4 hn4
          go_wp2
          go_roundw
          case rel => exact ⟨k + 1, d4, by omega, by first | go_num | (simp; done) | rfl, unhide HR4, unhide HO4, hs4, unhide HW4, unhide HN4⟩
          case measure => simp [intOf]; try omega
        · have hlt1 : (k : Int) + 1 ≤ (n : Int) := by omega
          have b0 : ¬ (k : Int) + 1 = 1 := by omega
          have b1 : ¬ (k : Int) + 1 = 2 := by omega
          have b3 : ¬ (k : Int) + 1 = 4 := by omega
          have b8 : ¬ ((k : Int) + 1).tmod 8 = 0 := by rw [Int.tmod_eq_emod_of_nonneg (by omega)]; omega
          have HC5 := hide (unhide HC4 (-1) (by rw [if_neg (fun hh => absurd ((unhide HAS).1 hh) (by omega))]) _ (unhide HR3))
          clear HC4 HAS
          go_wp2_with fail
          · exfalso
            have hh : ((((k : Int) + 1 == 1) = true ∨ ((k : Int) + 1 == 2) = true) ∨ ((k : Int) + 1 == 4) = true) ∨ (((k : Int) + 1) % 8 == 0) = true := by assumption
            simp only [beq_iff_eq] at hh
            omega
          with_reducible refine (unhide HC5).mono ?_
          rintro e w4 ⟨d4, ⟨rfl, hr4, ho4⟩, hs4, hw4, hn4⟩
          have HR4 := hide hr4
          have HO4 := hide ((unhide HO3).trans ho4)
          have HW4 := hide hw4
          have HN4 := hide hn4
          clear hr4 ho4 HC5 HR3 HO3 hx3 hf3 hw4 hn4
          go_wp2
          go_roundw
          case rel => exact ⟨k + 1, d4, by omega, by first | go_num | (simp; done) | rfl, unhide HR4, unhide HO4, hs4, unhide HW4, unhide HN4⟩
          case measure => simp [intOf]; try omega
      · have hkn : k = n := by omega
        subst hkn
        clear hlt
        have hgt : ¬ ((k : Int) + 1 ≤ (k : Int)) := by omega
        have HB := hide ((unhide HBW).trans ((unhide HO3).below (B := W.heap.size) hW1 fun q hq => by rw [hq]; exact hge))
        go_wp2
        go_ret
        exact ⟨rfl, unhide HB⟩
end Go.Proofs.YtjfmiomopfjecabGreat

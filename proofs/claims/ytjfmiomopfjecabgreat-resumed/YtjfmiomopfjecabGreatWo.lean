/- Texts laid together: KeepResume. -/
import Derived.Test.YtjfmiomopfjecabGreatWn
import Derived.Test.YtjfmiomopfjecabGreatWm
import Derived.Test.YtjfmiomopfjecabGreatWa
import Derived.Test.YtjfmiomopfjecabGreatWb
import Derived.Test.YtjfmiomopfjecabGreatWc
import Derived.Test.YtjfmiomopfjecabGreatWd
import Derived.Test.YtjfmiomopfjecabGreatWe
import Derived.Test.YtjfmiomopfjecabGreatWf
import Derived.Test.YtjfmiomopfjecabGreatWg
import Derived.Test.YtjfmiomopfjecabGreatWh
import Derived.Test.YtjfmiomopfjecabGreatWi
import Derived.Test.YtjfmiomopfjecabGreatWj
import Derived.Test.YtjfmiomopfjecabGreatWk
import Derived.Test.YtjfmiomopfjecabGreatWl
/- Chunks that were there ahead of a failure of the power are not asked for again: Resumed. -/
namespace Go.Proofs.YtjfmiomopfjecabGreat
open Go.RowKit Go.Lib

theorem cntM_le (n th : Nat) : cntM n th ≤ n := by
  unfold cntM
  exact Nat.le_trans (List.length_filter_le _ _) (Nat.le_of_eq List.length_range)
theorem only_self (w : World) (g o : Nat) (v : Value) : Only (· = g) w (w.setCell ⟨g, o, none⟩ v) := by
  refine ⟨rfl, rfl, rfl, by simp [World.setCell], fun k hk hn => ?_⟩
  exact Below.heap_setCell _ _ _ _ hn
theorem runRel_set {W : World} {r b : Nat} {j : M.Job} {ex inp : ByteArray} {d : M.Dev} {g o : Nat} {v : Value} (h : RunRel W r b j ex inp d) (hb : ¬ g = b) (hr : ¬ r = g) : RunRel (W.setCell ⟨g, o, none⟩ v) r b j ex inp d :=
  ⟨set_block h.run hr, h.dev.only (only_self W g o v) (fun e => hb e.symm), h.ne, h.key, h.inv, h.tz⟩
set_option maxRecDepth 10000 in
set_option maxHeartbeats 8000000 in
theorem resumed_any {W : World} {c : Chg} {j : M.Job} {ex inp : ByteArray} {v : Value} {l : List Int} (hv : HoldsArg W v l.length (intCells l)) (hl : ∀ x ∈ l, -9223372036854775808 ≤ x ∧ x ≤ 9223372036854775807)
    (hj : M.JobOk j) (hm : j.man.size ≤ maxLen) (hin : inp.size ≤ maxLen)
    (hbg : ∀ X : World, Calls Tryz.prog 10 #[chgV c, .string inp] X fun e w' => Begun X j ex inp e w') :
    Calls Tryz.prog 7 #[chgV c, v, .string inp] W fun e w' => e = .returned (.bool true) ∧ Below W.heap.size W w' := by
  have HJ := hide hj
  have HM := hide hm
  have HIN := hide hin
  have HBG := hide hbg
  clear hj hm hin hbg
  have hlen := hv.len
  unfold maxLen at hlen
  have HV := hide hv
  have hsh : ∃ p cap, v = .slice p l.length cap := by
    rcases hv with ⟨p, cap, rfl, h⟩ | ⟨g, off, cap, rfl, _⟩
    · exact ⟨p, cap, by rw [h]⟩
    · exact ⟨_, _, rfl⟩
  clear hv
  obtain ⟨p, cap, rfl⟩ := hsh
  have HL := hide hl
  have hn1 : 1 ≤ M.chunksN j.patch.size := by have := (unhide HJ).least; unfold M.chunksN; omega
  have hn6 : M.chunksN j.patch.size ≤ 6 := by have := (unhide HJ).most; unfold M.chunksN; omega
  have HCS := hide (fun X : World => jobChunks_any j ex X (unhide HJ).most)
  clear hl
  generalize hn : M.chunksN j.patch.size = n at *
  have HN := hide hn
  clear hn
  have hmk := fun X : World => makeB_run X n hn6
  go_enter Tryz.func7, Tryz.ntmps7
  go_wp2_with fail
  refine (unhide HBG _).mono ?_
  rintro e w1 ⟨r, b, d1, rfl, hr1, hs1, hb1, hge1, hge2⟩
  have hbW := ((Below.refl W.heap.size W).alloc (Nat.le_refl _) (.cells #[.int .i64 c.i1, .int .i64 c.o1, .string c.t1, .string c.s1, .int .i64 c.i2, .int .i64 c.o2, .string c.t2, .string c.s2, .string c.key, .int .i64 c.base, .int .i64 c.up, .bool c.diffed, .bool c.shown, .string c.ask] 25)).trans (hb1.mono (by simp))
  have hW1 := hbW.size
  have HBW := hide hbW
  have hge : W.heap.size ≤ b := by simp at hge2; omega
  have HR1 := hide hr1
  have HO1 := hide (Only.of (p := (· = b)) (Below.refl w1.heap.size w1))
  obtain ⟨hx1, hf1⟩ := block_facts hr1.run
  clear hr1 hb1 hge1 hge2 hbW HBG
  have HS1 := hide hs1
  clear hs1
  have hrg : r < w1.heap.size := (Array.getElem?_eq_some_iff.1 (unhide HR1).run).1
  have hb1 := (unhide HR1).lt
  go_wp2_with fail
  refine (unhide HCS _).mono ?_
  rintro e w2 ⟨rfl, hb2⟩
  have HR2 := hide ((unhide HR1).kept hb2)
  have HO2 := hide ((unhide HO1).trans (Only.of hb2))
  have hW2 := hb2.size
  clear hb2 HR1 HO1 hx1 hf1 HCS
  obtain ⟨hx2, hf2⟩ := block_facts (unhide HR2).run
  go_wp2_with fail
  have HR3 : Hid (RunRel (w2.alloc (.cells (rowB (bitB 0) n) 4)) r b j ex inp d1) := (unhide HR2).kept ((Below.refl _ _).alloc (Nat.le_refl _) _)
  have HO3 : Hid (Only (· = b) w1 (w2.alloc (.cells (rowB (bitB 0) n) 4))) := (unhide HO2).trans (Only.of ((Below.refl _ _).alloc (Nat.le_refl _) _))
  have KG3 : Hid ((w2.alloc (.cells (rowB (bitB 0) n) 4)).heap[w2.heap.size]? = some (.cells (rowB (bitB 0) n) 4 (0, 0))) := last_block _ _ rfl
  clear HR2 HO2 hx2 hf2 hmk
  generalize (w2.alloc (.cells (rowB (bitB 0) n) 4)) = w3 at *
  generalize hg : w2.heap.size = g at *
  have hgb : ¬ g = b := by omega
  clear hg
  have hK3 := (unhide HR3).run
  have K := hide hK3
  have rule2 : ∀ (X : World) (o : Nat), X.heap[r]? = some (.cells (runC b j ex inp true) 32 (0, 0)) → X.cell? ⟨r, o, none⟩ = (runC b j ex inp true)[o]? := fun X o h => cell_in h o
  clear hK3
  have HOF := hide (fun (X : World) (hX : RunRel X r b j ex inp d1) => offer_st (unhide HJ) (unhide HM) hX (unhide HS1) (by omega))
  go_region_held3 (fun X => X.heap[r]? = some (.cells (runC b j ex inp true) 32 (0, 0))) (repeat (first | with_reducible exact hC2 | with_reducible exact unhide K | with_reducible refine drew_block ?_)) ((go_at_call 13; refine (unhide HOF _ ((unhide HR3).kept (Below.refl _ _).drew)).mono ?_; rintro y w4 ⟨d4, ⟨rfl, hr4, ho4⟩, hs4, hwt, hnx⟩; have hC2 := hr4.run))
  all_goals
    have KG4 : Hid (w4.heap[g]? = some (.cells (rowB (bitB 0) n) 4 (0, 0))) := (ho4.block g (Array.getElem?_eq_some_iff.1 (unhide KG3)).1 hgb).trans (drew_block (unhide KG3))
    have HR4 := hide hr4
    have HO4 := hide ((unhide HO3).trans ((Only.of (p := (· = b)) ((Below.refl w3.heap.size w3).drew)).trans ho4))
    have HS4 := hide hs4
    clear hr4 ho4 hs4 hwt hnx hC2 HOF HS1 HR3 HO3 KG3 K rule2
    try clear hHeld
    go_wp2_with fail
    go_loopw [10, 11] (fun lf i wr => ∃ (k th : Nat) (d' : M.Dev), k ≤ l.length ∧ i = .int .i64 k ∧ lf = .int .i64 (cntM n th) ∧ RunRel wr r b j ex inp d' ∧ Only (· = b) w1 wr ∧ M.St j d' 1 0 th false ∧ wr.heap[g]? = some (.cells (rowB (bitB th) n) 4 (0, 0))) (fun _ i _ => l.length - (intOf i).toNat)
    case atStart => exact ⟨0, 0, d4, by omega, rfl, by rw [cntM_zero], unhide HR4, unhide HO4, unhide HS4, unhide KG4⟩
    case round =>
      clear HR4 HO4 HS4 KG4
      obtain ⟨k, th, d5, hk, rfl, rfl, hr5, ho5, hs5, kg5⟩ := hrel
      have HR5 := hide hr5
      have HS5 := hide hs5
      have HO5 := hide ho5
      have KG5 := hide kg5
      have hgl := (Array.getElem?_eq_some_iff.1 kg5).1
      have hBel := (unhide HBW).trans (ho5.below (B := W.heap.size) hW1 fun q hq => by rw [hq]; exact hge)
      obtain ⟨hx5, hf5⟩ := block_facts hr5.run
      have hv5 := (unhide HV).mono hBel
      clear hr5 hs5 ho5 kg5 hBel
      by_cases hlt : k < l.length
      · rcases hv5 with ⟨_, _, h, hn⟩ | ⟨g', off, cap', h, hg, h1, h2, h3⟩
        · exact absurd hlt (by omega)
        · injection h with hp _ hcap
          subst hp hcap
          have hgW : g' < W.heap.size := by
            rcases unhide HV with ⟨_, _, h, hn⟩ | ⟨g2, off', cap2, h, hg', _⟩
            · exact absurd hlt (by omega)
            · injection h with hp _ _
              injection hp with hp
              injection hp with hp _
              subst hp
              exact hg'
          have hc := h3 k _ (intCells_at hlt)
          have hx := unhide HL (l.getD k 0) (by rw [List.getD_eq_getElem?_getD, List.getElem?_eq_getElem hlt]; exact List.getElem_mem hlt)
          clear h3
          have hK : M.pk (l.getD k 0) n < n := M.pk_lt _ _ (by omega)
          have HPK := hide (fun X : World => kPick_any (l.getD k 0) n X hx.1 hx.2 hn1 (by omega))
          have HC6 := hide (chunk_st (unhide HJ) (unhide HR5) (unhide HS5) (i := M.pk (l.getD k 0) n) (by rw [HN.out]; exact hK))
          generalize l.getD k 0 = x at *
          generalize M.pk x n = K at *
          have hltI : (k : Int) < (l.length : Int) := by omega
          generalize l.length = ln at *
          go_wp2_with fail
          refine (unhide HPK _).mono ?_
          rintro e _ ⟨rfl, rfl⟩
          go_wp2_with fail
          refine (unhide HC6).mono ?_
          rintro e w6 ⟨d6, ⟨rfl, hr6, ho6⟩, hs6⟩
          have HR6 := hide hr6
          have HO6 := hide ((unhide HO5).trans ho6)
          have HS6 := hide hs6
          have kg6 := (ho6.block g hgl hgb).trans (unhide KG5)
          have KG6 := hide kg6
          have hgl6 := (Array.getElem?_eq_some_iff.1 kg6).1
          have hck := (cell_in kg6 K).trans (rowB_at _ hK)
          have hfk := (block_facts kg6).2 K
          clear hr6 ho6 hs6 kg6 HC6 HPK HR5 HO5 HS5 KG5 hc hx5 hf5
          have hK0 : (0 : Int) ≤ (K : Int) := by omega
          have hKn : (K : Int) < (n : Int) := by omega
          have hg1 : w1.heap.size ≤ g := by omega
          rcases bit_two th K with h0 | h0
          · have hbt : bitB th K = false := by unfold bitB; simp [h0]
            rw [hbt] at hck
            have hcn := cntM_with (th := th) (i := K) hn6 hK h0
            have hcl := cntM_le n th
            have HRW : Hid ((w6.setCell ⟨g, K, none⟩ (.bool true)).heap[g]? = some (.cells (rowB (bitB (M.withBit th K)) n) 4 (0, 0))) := (setCell_in (unhide KG6) K _).trans (by rw [rowB_set, rowB_with hn6 hK])
            have HR7 : Hid (RunRel (w6.setCell ⟨g, K, none⟩ (.bool true)) r b j ex inp d6) := runRel_set (unhide HR6) hgb (by omega)
            have HO7 : Hid (Only (· = b) w1 (w6.setCell ⟨g, K, none⟩ (.bool true))) := ol_set hg1 (unhide HO6)
            generalize hA : cntM n th = A at *
            generalize hB : cntM n (M.withBit th K) = B at *
            have HBq := hide hB
            clear hA hB
            subst hcn
            go_wp2
            go_roundw
            case rel => exact ⟨k + 1, M.withBit th K, d6, by omega, by go_num, by rw [HBq.out], unhide HR7, unhide HO7, unhide HS6, unhide HRW⟩
            case measure => simp [intOf]; omega
          · have hbt : bitB th K = true := by unfold bitB; simp [h0]
            rw [hbt] at hck
            have HCN : Hid (cntM n (M.withBit th K) = cntM n th) := cntM_same h0
            have HRW : Hid (rowB (bitB (M.withBit th K)) n = rowB (bitB th) n) := rowB_kept h0
            go_wp2
            go_roundw
            case rel => exact ⟨k + 1, M.withBit th K, d6, by omega, by go_num, by rw [HCN.out], unhide HR6, unhide HO6, unhide HS6, by rw [HRW.out]; exact unhide KG6⟩
            case measure => simp [intOf]; omega
      · have hkn : ¬ (k : Int) < (l.length : Int) := by omega
        clear hv5 HV HL hlen
        generalize l.length = ln at *
        have HC8 := hide (again_st (unhide HJ) (unhide HR5) (unhide HS5) (ph' := 1) (tr' := 0) (th' := th) (by simp))
        rw [show M.verP j 1 false = j.base from by simp [M.verP]] at HC8
        go_wp2_with fail
        refine (unhide HC8).mono ?_
        rintro e w8 ⟨d8, ⟨rfl, hr8, ho8⟩, hs8, hw8, hn8, ha8⟩
        have HR8 := hide hr8
        have HO8 := hide ((unhide HO5).trans ho8)
        have KG8 : Hid (w8.heap[g]? = some (.cells (rowB (bitB th) n) 4 (0, 0))) := (ho8.block g hgl hgb).trans (unhide KG5)
        have HS8 := hide hs8
        have HW8 := hide hw8
        have HST : Hid (statOf d8 = .agg #[.bool true, .int .i64 1, .int .i64 (M.servedD d8.F), .int .i64 (M.verOf d8.F (M.servedD d8.F)), .int .i64 (M.verOf d8.F (M.fld d8.F 1)), .int .i64 (M.fld d8.F 3), .int .i64 (cntM n th)]) := by
          show _ = _
          have hm := M.st_missing (unhide HJ) hs8
          rw [HN.out] at hm
          unfold statOf
          rw [if_pos hs8.on, if_pos hs8.phase, hm]
          unfold statV
          rw [hs8.phase]
          rfl
        clear hr8 ho8 hs8 hw8 hn8 ha8 HC8 HR5 HO5 KG5 HS5 hx5 hf5 hgl
        have HSS := hide (runStatus_any (unhide HR8))
        rw [HST.out] at HSS
        go_wp2_with fail
        refine (unhide HSS).mono ?_
        rintro e w9 ⟨rfl, hb9⟩
        have HR9 := hide ((unhide HR8).kept hb9)
        have HO9 := hide ((unhide HO8).trans (Only.of hb9))
        have KG9 := hide (kept_block hb9 (unhide KG8))
        clear hb9 HSS HST HR8 HO8 KG8
        generalize cntM n th = A at *
        go_wp2_with fail
        refine (must_true _ _).mono ?_
        rintro e _ ⟨rfl, rfl⟩
        go_wp2_with fail
        go_loopw [14] (fun i wr => ∃ (k th2 : Nat) (d' : M.Dev), k ≤ n ∧ i = .int .i64 k ∧ RunRel wr r b j ex inp d' ∧ Only (· = b) w1 wr ∧ M.St j d' 1 0 th2 false ∧ d'.wait = 0 ∧ (∀ q, q < k → th2 / 2 ^ q % 2 = 1) ∧ (∀ q, k ≤ q → q < n → th2 / 2 ^ q % 2 = th / 2 ^ q % 2) ∧ wr.heap[g]? = some (.cells (rowB (bitB th) n) 4 (0, 0))) (fun i _ => n - (intOf i).toNat)
        case atStart => exact ⟨0, th, d8, by omega, rfl, (unhide HR9).kept ((Below.refl _ _).alloc (Nat.le_refl _) _), (unhide HO9).trans (Only.of ((Below.refl _ _).alloc (Nat.le_refl _) _)), unhide HS8, unhide HW8, fun q hq => absurd hq (by omega), fun q _ _ => rfl, ablk (unhide KG9)⟩
        case round =>
          clear HR9 HO9 KG9 HS8 HW8
          obtain ⟨k2, th2, dA, hk2, rfl, hrA, hoA, hsA, hwA, hlo, hhi, kgA⟩ := hrel
          have HRA := hide hrA
          have HOA := hide hoA
          have HSA := hide hsA
          have HWA := hide hwA
          have HLO := hide hlo
          have HHI := hide hhi
          have KGA := hide kgA
          have hgl := (Array.getElem?_eq_some_iff.1 kgA).1
          obtain ⟨hxA, hfA⟩ := block_facts hrA.run
          by_cases hlt2 : k2 < n
          · have hcA := (cell_in kgA k2).trans (rowB_at (bitB th) hlt2)
            have hk0 : (0 : Int) ≤ (k2 : Int) := by omega
            have hkn2 : (k2 : Int) < (n : Int) := by omega
            have h2 := hhi k2 (Nat.le_refl _) hlt2
            clear hrA hoA hsA hwA hlo hhi kgA
            rcases bit_two th k2 with h0 | h0
            · have hbt : bitB th k2 = false := by unfold bitB; simp [h0]
              rw [hbt] at hcA
              rw [h0] at h2
              have hmi : ∃ l, M.missing dA.F = k2 :: l := by
                rw [M.st_missing (unhide HJ) (unhide HSA), HN.out]
                exact M.missing_first n th2 k2 hlt2 h2 (unhide HLO)
              have HCB : Hid (Calls Tryz.prog 26 #[.pointer (some ⟨r, 0, none⟩), .int .i64 k2] wr fun e w' => ∃ d', Goes wr r b j ex inp d' e w' ∧ M.St j d' 1 0 th2 false) := by
                obtain ⟨l2, hl2⟩ := hmi
                refine (asks_st (unhide HJ) (unhide HRA) (unhide HSA) hl2 (want := (k2 : Int)) (by rw [HWA.out, if_pos (by omega)])).mono ?_
                rintro e w' ⟨d', a, b, _, _⟩
                exact ⟨d', a, b⟩
              clear hmi
              have H2 := hide h2
              clear h2
              go_wp2_with fail
              refine (unhide HCB).mono ?_
              rintro e wB ⟨dB, ⟨rfl, hrB, hoB⟩, hsB⟩
              have HRB := hide hrB
              have HOB := hide ((unhide HOA).trans hoB)
              have KGB : Hid (wB.heap[g]? = some (.cells (rowB (bitB th) n) 4 (0, 0))) := (hoB.block g hgl hgb).trans (unhide KGA)
              have hglB := (Array.getElem?_eq_some_iff.1 (unhide KGB)).1
              have HCC := hide (chunk_wait (unhide HJ) hrB hsB (i := k2) (by rw [HN.out]; exact hlt2) (unhide H2))
              clear hrB hoB hsB HCB HRA HOA KGA hxA hfA hcA HSA HWA
              go_wp2_with fail
              refine (unhide HCC).mono ?_
              rintro e wC ⟨dC, ⟨rfl, hrC, hoC⟩, hsC, hwC⟩
              have HRC := hide hrC
              have HOC := hide ((unhide HOB).trans hoC)
              have KGC : Hid (wC.heap[g]? = some (.cells (rowB (bitB th) n) 4 (0, 0))) := (hoC.block g hglB hgb).trans (unhide KGB)
              have HSC := hide hsC
              have HWC := hide hwC
              clear hrC hoC hsC hwC HCC HRB HOB KGB
              go_wp2
              go_roundw
              case rel =>
                refine ⟨k2 + 1, M.withBit th2 k2, dC, by omega, by go_num, unhide HRC, unhide HOC, unhide HSC, unhide HWC, fun q hq => ?_, fun q hq1 hq2 => ?_, unhide KGC⟩
                · by_cases e : q = k2
                  · subst e; exact withBit_has _ _
                  · exact withBit_keeps (by omega) (by omega) (unhide HLO q (by omega))
                · rw [withBit_else (by omega) (by omega) (by omega)]
                  exact unhide HHI q (by omega) hq2
              case measure => simp [intOf]; omega
            · have hbt : bitB th k2 = true := by unfold bitB; simp [h0]
              rw [hbt] at hcA
              rw [h0] at h2
              have H2 := hide h2
              clear h2
              go_wp2
              go_roundw
              case rel =>
                refine ⟨k2 + 1, th2, dA, by omega, by go_num, unhide HRA, unhide HOA, unhide HSA, unhide HWA, fun q hq => ?_, fun q hq1 hq2 => unhide HHI q (by omega) hq2, unhide KGA⟩
                by_cases e : q = k2
                · subst e; exact unhide H2
                · exact unhide HLO q (by omega)
              case measure => simp [intOf]; omega
          · have hk2n : k2 = n := by omega
            subst hk2n
            clear hrA hoA hsA hwA hlo hhi kgA hlt2
            have HCD := hide (install_st (unhide HJ) (unhide HRA) (unhide HSA) (by rw [HN.out]; exact unhide HLO))
            go_wp2_with fail
            refine (unhide HCD).mono ?_
            rintro e wD ⟨dD, ⟨rfl, hrD, hoD⟩, hsD, hageD⟩
            have HRD := hide hrD
            have HOD := hide ((unhide HOA).trans hoD)
            obtain ⟨hxD, hfD⟩ := block_facts hrD.run
            clear hrD hoD HCD HRA HOA hxA hfA
            have HCE := hide (serves_st (unhide HJ) (unhide HRD) hsD (unhide HIN))
            rw [show M.verP j 2 false = j.up from by simp [M.verP]] at HCE
            go_wp2_with fail
            refine (unhide HCE).mono ?_
            rintro e wE ⟨rfl, hrE, hoE⟩
            have HRE := hide hrE
            have HOE := hide ((unhide HOD).trans hoE)
            obtain ⟨hxE, hfE⟩ := block_facts hrE.run
            clear hrE hoE HCE HRD HOD hxD hfD
            have HB := hide ((unhide HBW).trans ((unhide HOE).below (B := W.heap.size) hW1 fun q hq => by rw [hq]; exact hge))
            go_wp2
            go_ret
            exact ⟨rfl, unhide HB⟩
end Go.Proofs.YtjfmiomopfjecabGreat

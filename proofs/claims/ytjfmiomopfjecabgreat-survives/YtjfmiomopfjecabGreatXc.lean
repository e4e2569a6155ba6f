/- Texts laid together: KeepBlown2, KeepBlow3, KeepTry. -/
import Derived.Test.YtjfmiomopfjecabGreatXb
import Derived.Test.YtjfmiomopfjecabGreatWk
import Derived.Test.YtjfmiomopfjecabGreatWa
import Derived.Test.YtjfmiomopfjecabGreatWb
import Derived.Test.YtjfmiomopfjecabGreatWc
import Derived.Test.YtjfmiomopfjecabGreatWd
import Derived.Test.YtjfmiomopfjecabGreatWe
import Derived.Test.YtjfmiomopfjecabGreatWf
import Derived.Test.YtjfmiomopfjecabGreatWg
import Derived.Test.YtjfmiomopfjecabGreatWh
import Derived.Test.YtjfmiomopfjecabGreatWi
import Derived.Test.YtjfmiomopfjecabGreatWj
import Derived.Test.YtjfmiomopfjecabGreatWl
import Derived.Test.YtjfmiomopfjecabGreatWm
import Derived.Test.YtjfmiomopfjecabGreatXa
/- One event, at which the power may fail. -/
namespace Go.Proofs.YtjfmiomopfjecabGreat
open Go.RowKit Go.Lib

section
variable {W : World} {r b g : Nat} {j : M.Job} {ex inp : ByteArray} {d : M.Dev}
set_option maxRecDepth 10000 in
set_option maxHeartbeats 2000000 in
theorem blown_cut_else (h : RunRel W r b j ex inp d) (k n cut torn : Int) (kp may : Bool) (d' : M.Dev) (K N : Nat) (T : ByteArray) (er ve : Nat) (tx : ByteArray) (ask : Int) (s1 s2 s3 s4 s5 s6 t1 t2 t3 t4 t5 t6 : Int)
    (hev : ∀ X : World, Calls Tryz.prog 44 #[jobV j ex, .agg #[.int .i64 k, .int .i64 n, .int .i64 cut, .int .i64 torn]] X fun e w' => e = .returned (evV K N T cut torn) ∧ Below X.heap.size X w') (hT : T.size ≤ maxLen)
    (hdo : M.doM d ⟨K, N, T, cut, torn⟩ = (d', ⟨er, ve, tx, ask⟩)) (hst : statOf d = .agg #[.bool true, .int .i64 s1, .int .i64 s2, .int .i64 s3, .int .i64 s4, .int .i64 s5, .int .i64 s6]) (hst' : statOf d' = .agg #[.bool false, .int .i64 t1, .int .i64 t2, .int .i64 t3, .int .i64 t4, .int .i64 t5, .int .i64 t6])
    (hg : W.heap[g]? = some (.cells #[.bool kp, .bool may] 58 (0, 0))) (hgb : ¬ g = b) (hk2 : ¬ K = 2) (hk7 : ¬ K = 7) (he : er = 10) (hc : 0 ≤ cut)
    (hsd : ∀ X : World, RunRel X r b j ex inp d' → X.heap[g]? = some (.cells #[.bool kp, .bool may] 58 (0, 0)) → Calls Tryz.prog 45 #[.pointer (some ⟨r, 0, none⟩), .pointer (some ⟨g, 0, none⟩)] X fun e w' => SoundPost X r b g j ex inp d' e w') :
    Calls Tryz.prog 29 #[.pointer (some ⟨r, 0, none⟩), .pointer (some ⟨g, 0, none⟩), .agg #[.int .i64 k, .int .i64 n, .int .i64 cut, .int .i64 torn]] W fun e w' => SoundPost W r b g j ex inp d' e w' := by
  have HR := hide h
  have HG := hide hg
  have HEV := hide hev
  have HDO : Hid (∀ X : World, RunRel X r b j ex inp d → Calls Tryz.prog 34 #[.pointer (some ⟨r, 0, none⟩), evV K N T cut torn] X fun y w' => y = .returned (.agg #[.int .i64 (er : Nat), .int .i64 (ve : Nat), .string tx, .int .i64 ask]) ∧ RunRel w' r b j ex inp d' ∧ Only (· = b) X w') := by
    intro X hX
    refine (runDo_any hX ⟨K, N, T, cut, torn⟩ hT).mono fun y w' hp => ?_
    have hrel := hX.does hp
    obtain ⟨hy, _, ho⟩ := hp
    rw [hdo] at hrel hy
    exact ⟨hy, hrel, ho⟩
  have HS1 : Hid (∀ X : World, RunRel X r b j ex inp d → Calls Tryz.prog 28 #[.pointer (some ⟨r, 0, none⟩)] X fun e w' => e = .returned (.agg #[.bool true, .int .i64 s1, .int .i64 s2, .int .i64 s3, .int .i64 s4, .int .i64 s5, .int .i64 s6]) ∧ Below X.heap.size X w') := by
    intro X hX
    have := runStatus_any hX
    rwa [hst] at this
  have HS2 : Hid (∀ X : World, RunRel X r b j ex inp d' → Calls Tryz.prog 28 #[.pointer (some ⟨r, 0, none⟩)] X fun e w' => e = .returned (.agg #[.bool false, .int .i64 t1, .int .i64 t2, .int .i64 t3, .int .i64 t4, .int .i64 t5, .int .i64 t6]) ∧ Below X.heap.size X w') := by
    intro X hX
    have := runStatus_any hX
    rwa [hst'] at this
  have HSD := hide hsd
  subst he
  have hk2' : ¬ (K : Int) = 2 := by omega
  have hk7' : ¬ (K : Int) = 7 := by omega
  have hgl := (Array.getElem?_eq_some_iff.1 hg).1
  have hrl := h.lt.1
  have hbl := h.lt.2
  clear h hg hev hdo hst hst' hT hsd
  go_enter Tryz.func29, Tryz.ntmps29
  go_wp2_with fail
  refine (unhide HS1 _ ((unhide HR).kept ((Below.refl _ _).alloc (Nat.le_refl _) _))).mono ?_
  rintro e w1 ⟨rfl, hb1⟩
  obtain ⟨kB1, hs1, hbW1⟩ := blk1 hb1
  have HR1 := hide ((unhide HR).kept hbW1)
  have KG1 := hide (kept_block hbW1 (unhide HG))
  have KB1 := hide kB1
  have HO1 := hide (Only.of (p := Both b g) hbW1)
  have hsz1 := hbW1.size
  clear hb1 kB1 hbW1 HS1 HR HG
  go_wp2_with fail
  have rule1 : ∀ (Y : World) (o : Nat), Y.heap[W.heap.size]? = some (.cells #[.int .i64 k, .int .i64 n, .int .i64 cut, .int .i64 torn] 61 (0, 0)) → Y.cell? ⟨W.heap.size, o, none⟩ = (#[.int .i64 k, .int .i64 n, .int .i64 cut, .int .i64 torn] : Array Value)[o]? := fun Y o hh => cell_in hh o
  have rule2 : ∀ (Y : World) (o : Nat), Y.heap[r]? = some (.cells (runC b j ex inp true) 32 (0, 0)) → Y.cell? ⟨r, o, none⟩ = (runC b j ex inp true)[o]? := fun Y o hh => cell_in hh o
  have KA := hide (drew_block (ablk (o2 := .cells #[.bool true, .int .i64 s1, .int .i64 s2, .int .i64 s3, .int .i64 s4, .int .i64 s5, .int .i64 s6] 52) (unhide HR1).run))
  have KA2 := hide (ablk (o2 := .cells #[.bool true, .int .i64 s1, .int .i64 s2, .int .i64 s3, .int .i64 s4, .int .i64 s5, .int .i64 s6] 52) (unhide HR1).run)
  have KC := hide (ablk (o2 := .cells #[.bool true, .int .i64 s1, .int .i64 s2, .int .i64 s3, .int .i64 s4, .int .i64 s5, .int .i64 s6] 52) (unhide KB1))
  have KGx := hide (ablk (o2 := .cells #[.bool true, .int .i64 s1, .int .i64 s2, .int .i64 s3, .int .i64 s4, .int .i64 s5, .int .i64 s6] 52) (unhide KG1))
  have KSx := hide (last_block w1 (.cells #[.bool true, .int .i64 s1, .int .i64 s2, .int .i64 s3, .int .i64 s4, .int .i64 s5, .int .i64 s6] 52) rfl)
  have HRx := hide ((unhide HR1).kept ((Below.refl _ _).alloc (Nat.le_refl _) (.cells #[.bool true, .int .i64 s1, .int .i64 s2, .int .i64 s3, .int .i64 s4, .int .i64 s5, .int .i64 s6] 52)))
  have HOx := hide ((unhide HO1).trans (Only.of ((Below.refl _ _).alloc (Nat.le_refl _) (.cells #[.bool true, .int .i64 s1, .int .i64 s2, .int .i64 s3, .int .i64 s4, .int .i64 s5, .int .i64 s6] 52))))
  have hszx : (w1.alloc (.cells #[.bool true, .int .i64 s1, .int .i64 s2, .int .i64 s3, .int .i64 s4, .int .i64 s5, .int .i64 s6] 52)).heap.size = w1.heap.size + 1 := by simp
  refine cut_code (fun a Z => ∃ (q : Nat) (x12 x13 x14 x15 x16 x17 : Value), a = ⟨#[.pointer (some ⟨r, 0, none⟩), .pointer (some ⟨g, 0, none⟩), .agg #[.int .i64 k, .int .i64 n, .int .i64 cut, .int .i64 torn], undef, undef, .pointer (some ⟨W.heap.size, 0, none⟩), .pointer (some ⟨w1.heap.size, 0, none⟩), .pointer (some ⟨q, 0, none⟩), undef, undef, .pointer (some ⟨r, 0, none⟩), .agg #[.bool true, .int .i64 s1, .int .i64 s2, .int .i64 s3, .int .i64 s4, .int .i64 s5, .int .i64 s6], x12, x13, x14, x15, x16, x17, undef, undef, undef, undef, undef, undef, undef, undef, undef, undef, undef, undef, undef, undef, undef, undef, undef, undef, undef, undef, undef, undef, undef, undef, undef, undef, undef, undef, undef, undef, undef, undef, undef, undef, undef, undef, undef, undef, undef, undef, undef, undef, undef, undef, undef, undef, undef, undef, undef, undef, undef, undef, undef, undef, undef, undef, undef, undef, undef, undef, undef, undef, undef, undef, undef, undef, undef, undef, undef, undef, undef, undef, undef, undef, undef, undef, undef, undef, undef, undef, undef, undef, undef, undef, undef, undef, undef, undef, undef, undef, undef, undef], []⟩ ∧ Z.heap[q]? = some (.cells #[.int .i64 (K : Nat), .int .i64 (N : Nat), .string T, .int .i64 cut, .int .i64 torn] 74 (0, 0)) ∧ Z.heap[W.heap.size]? = some (.cells #[.int .i64 k, .int .i64 n, .int .i64 cut, .int .i64 torn] 61 (0, 0)) ∧ Z.heap[w1.heap.size]? = some (.cells #[.bool true, .int .i64 s1, .int .i64 s2, .int .i64 s3, .int .i64 s4, .int .i64 s5, .int .i64 s6] 52 (0, 0)) ∧ RunRel Z r b j ex inp d ∧ Z.heap[g]? = some (.cells #[.bool kp, .bool may] 58 (0, 0)) ∧ Only (Both b g) W Z ∧ w1.heap.size < q) ?_ ?_
  · clear KA
    have HSX := hide hszx
    have m1 : r < (w1.alloc (.cells #[.bool true, .int .i64 s1, .int .i64 s2, .int .i64 s3, .int .i64 s4, .int .i64 s5, .int .i64 s6] 52)).heap.size := by omega
    have m2 : W.heap.size < (w1.alloc (.cells #[.bool true, .int .i64 s1, .int .i64 s2, .int .i64 s3, .int .i64 s4, .int .i64 s5, .int .i64 s6] 52)).heap.size := by omega
    have m3 : g < (w1.alloc (.cells #[.bool true, .int .i64 s1, .int .i64 s2, .int .i64 s3, .int .i64 s4, .int .i64 s5, .int .i64 s6] 52)).heap.size := by omega
    have m4 : w1.heap.size < (w1.alloc (.cells #[.bool true, .int .i64 s1, .int .i64 s2, .int .i64 s3, .int .i64 s4, .int .i64 s5, .int .i64 s6] 52)).heap.size := by omega
    have m5 : b < (w1.alloc (.cells #[.bool true, .int .i64 s1, .int .i64 s2, .int .i64 s3, .int .i64 s4, .int .i64 s5, .int .i64 s6] 52)).heap.size := by omega
    clear hszx
    generalize (w1.alloc (.cells #[.bool true, .int .i64 s1, .int .i64 s2, .int .i64 s3, .int .i64 s4, .int .i64 s5, .int .i64 s6] 52)) = Y1 at *
    go_region_held3 (fun Y => Y.heap[r]? = some (.cells (runC b j ex inp true) 32 (0, 0)) ∧ Y.heap[W.heap.size]? = some (.cells #[.int .i64 k, .int .i64 n, .int .i64 cut, .int .i64 torn] 61 (0, 0))) (refine ⟨?_, ?_⟩ <;> (repeat (first | with_reducible exact hC1 | with_reducible exact hC2 | with_reducible exact unhide KA2 | with_reducible exact unhide KC | with_reducible refine ablk ?_ | with_reducible refine drew_block ?_ | (with_reducible refine sblk ?_ ?_; (focus omega))))) ((go_at_call 44; with_reducible refine (unhide HEV _).mono ?_; rintro y wN ⟨rfl, hbN⟩; have hsN := hbN.size; have hC1 : wN.heap[r]? = some (.cells (runC b j ex inp true) 32 (0, 0)) := kept_block hbN (by repeat (first | with_reducible exact unhide KA2 | with_reducible refine ablk ?_ | with_reducible refine drew_block ?_)); have hC2 : wN.heap[W.heap.size]? = some (.cells #[.int .i64 k, .int .i64 n, .int .i64 cut, .int .i64 torn] 61 (0, 0)) := kept_block hbN (by repeat (first | with_reducible exact unhide KC | with_reducible refine ablk ?_ | with_reducible refine drew_block ?_)); (first | (have hK : wN.heap[Y1.heap.size]? = some (.cells #[.int .i64 0, .int .i64 0, .string ⟨#[]⟩, .int .i64 0, .int .i64 0] 74 (0, 0)) := kept_block hbN (drew_block (last_block _ _ rfl)); have hNx := (block_facts hK).1; have hNf := (block_facts hK).2; have hNl := (Array.getElem?_eq_some_iff.1 hK).1) | (have hK : wN.heap[Y1.heap.size]? = some (.cells #[.int .i64 0, .int .i64 0, .string ⟨#[]⟩, .int .i64 0, .int .i64 0] 74 (0, 0)) := kept_block hbN (last_block Y1.drew _ rfl); have hNx := (block_facts hK).1; have hNf := (block_facts hK).2; have hNl := (Array.getElem?_eq_some_iff.1 hK).1) | (have hK : wN.heap[Y1.heap.size]? = some (.cells #[.int .i64 0, .int .i64 0, .string ⟨#[]⟩, .int .i64 0, .int .i64 0] 74 (0, 0)) := kept_block hbN (last_block Y1 _ rfl); have hNx := (block_facts hK).1; have hNf := (block_facts hK).2; have hNl := (Array.getElem?_eq_some_iff.1 hK).1) | skip)))
    all_goals
      have HbN : Hid (Below Y1.heap.size Y1 wN) := (by first | exact (Below.refl Y1.heap.size Y1).drew.trans hbN | exact ((Below.refl Y1.heap.size Y1).alloc (Nat.le_refl _) _).drew.trans (hbN.mono (by show Y1.heap.size ≤ (World.alloc _ _).heap.size; simp)))
      have hsN1 := (unhide HbN).size
      refine ⟨rfl, _, _, _, _, _, _, _, rfl, ?_, ?_, ?_, ?_, ?_, ?_, ?_⟩
      · first | with_reducible exact last_block _ _ rfl | with_reducible exact setRow5 hK | with_reducible exact drew_block (last_block _ _ rfl) | with_reducible exact drew_block (setRow5 hK)
      · refine kept_block (X := Y1) ?_ (unhide KC)
        repeat (first | with_reducible exact unhide HbN | with_reducible refine bdrew ?_ | (with_reducible refine bset ?_ ?_; (focus (first | omega | (simp; done) | (simp; omega)))) | (with_reducible refine balloc ?_ ?_; (focus (first | omega | (simp; done) | (simp; omega)))))
      · refine kept_block (X := Y1) ?_ (unhide KSx)
        repeat (first | with_reducible exact unhide HbN | with_reducible refine bdrew ?_ | (with_reducible refine bset ?_ ?_; (focus (first | omega | (simp; done) | (simp; omega)))) | (with_reducible refine balloc ?_ ?_; (focus (first | omega | (simp; done) | (simp; omega)))))
      · refine (unhide HRx).kept ?_
        repeat (first | with_reducible exact unhide HbN | with_reducible refine bdrew ?_ | (with_reducible refine bset ?_ ?_; (focus (first | omega | (simp; done) | (simp; omega)))) | (with_reducible refine balloc ?_ ?_; (focus (first | omega | (simp; done) | (simp; omega)))))
      · refine kept_block (X := Y1) ?_ (unhide KGx)
        repeat (first | with_reducible exact unhide HbN | with_reducible refine bdrew ?_ | (with_reducible refine bset ?_ ?_; (focus (first | omega | (simp; done) | (simp; omega)))) | (with_reducible refine balloc ?_ ?_; (focus (first | omega | (simp; done) | (simp; omega)))))
      · refine (unhide HOx).trans (Only.of ?_)
        repeat (first | with_reducible exact unhide HbN | with_reducible refine bdrew ?_ | (with_reducible refine bset ?_ ?_; (focus (first | omega | (simp; done) | (simp; omega)))) | (with_reducible refine balloc ?_ ?_; (focus (first | omega | (simp; done) | (simp; omega)))))
      · omega
  · rintro _ Z ⟨q, x12, x13, x14, x15, x16, x17, rfl, kE, kB, kS, hrZ, kG, hoZ, hq⟩
    clear HEV HR1 KG1 KB1 HO1 KA KA2 KC KGx KSx HRx HOx hszx rule1 rule2
    have KE := hide kE
    have KB := hide kB
    have KS := hide kS
    have KG := hide kG
    have HOZ := hide hoZ
    have lq := (Array.getElem?_eq_some_iff.1 kE).1
    have lB := (Array.getElem?_eq_some_iff.1 kB).1
    have lS := (Array.getElem?_eq_some_iff.1 kS).1
    have lG := (Array.getElem?_eq_some_iff.1 kG).1
    obtain ⟨hxE, hfE⟩ := block_facts kE
    have HRZ := hide hrZ
    clear kE kB kS kG hoZ hrZ
    go_wp2_with fail
    refine (unhide HDO _ (unhide HRZ)).mono ?_
    rintro y w3 ⟨rfl, hr3, ho3⟩
    have KE3 := hide ((ho3.block q lq (by omega)).trans (unhide KE))
    have KB3 := hide ((ho3.block W.heap.size lB (by omega)).trans (unhide KB))
    have KS3 := hide ((ho3.block w1.heap.size lS (by omega)).trans (unhide KS))
    have KG3 := hide ((ho3.block g lG hgb).trans (unhide KG))
    have HO3 := hide ((unhide HOZ).trans (only_both ho3))
    have HR3 := hide hr3
    have hs3 := ho3.size
    clear hr3 ho3 hxE hfE KE KB KS KG HOZ HRZ HDO
    go_wp2_with fail
    refine (unhide HS2 _ ((unhide HR3).kept ((Below.refl _ _).alloc (Nat.le_refl _) _))).mono ?_
    rintro e w4 ⟨rfl, hb4⟩
    obtain ⟨kR4, hl4, hbW4⟩ := blk1 hb4
    have kE4 := kept_block hbW4 (unhide KE3)
    have kB4 := kept_block hbW4 (unhide KB3)
    have kS4 := kept_block hbW4 (unhide KS3)
    have kG4 := kept_block hbW4 (unhide KG3)
    have HR4 := hide ((unhide HR3).kept hbW4)
    have HO4 := hide ((unhide HO3).trans (Only.of hbW4))
    obtain ⟨hxr, hfr⟩ := block_facts (unhide HR4).run
    obtain ⟨hxE, hfE⟩ := block_facts kE4
    obtain ⟨hxB, hfB⟩ := block_facts kB4
    obtain ⟨hxS, hfS⟩ := block_facts kS4
    obtain ⟨hxR, hfR⟩ := block_facts kR4
    obtain ⟨hxg, hfg⟩ := block_facts kG4
    have KG4 := hide kG4
    have l1 := (Array.getElem?_eq_some_iff.1 kE4).1
    have l2 := (Array.getElem?_eq_some_iff.1 kB4).1
    have l3 := (Array.getElem?_eq_some_iff.1 kS4).1
    have l4 := (Array.getElem?_eq_some_iff.1 kG4).1
    have l5 := (unhide HR4).lt.1
    have n1 : ¬ q = w4.heap.size := by omega
    have n2 : ¬ W.heap.size = w4.heap.size := by omega
    have n3 : ¬ w1.heap.size = w4.heap.size := by omega
    have n4 : ¬ g = w4.heap.size := by omega
    have n5 : ¬ r = w4.heap.size := by omega
    have n6 : ¬ w3.heap.size = w4.heap.size := by omega
    have n7 : ¬ w3.heap.size = g := by omega
    have n8 : ¬ g = w3.heap.size := by omega
    clear hb4 kR4 hbW4 kE4 kB4 kS4 kG4 HR3 KE3 KB3 KS3 KG3 HO3 HS2 lq lB lS lG
    go_wp2_with fail
    refine (must_true _ _).mono ?_
    rintro e _ ⟨rfl, rfl⟩
    go_wp2_with fail
    refine (unhide HSD _ ((unhide HR4).kept ((Below.refl _ _).alloc (Nat.le_refl _) _)) (ablk (unhide KG4))).mono ?_
    rintro e w9 ⟨rfl, kp9, may9, hr9, hk9, ho9, h1, h2⟩
    have H9 := hide (And.intro hr9 (And.intro hk9 (And.intro h1 h2)))
    have HO9 := hide (((unhide HO4).trans (Only.of ((Below.refl _ _).alloc (Nat.le_refl _) _))).trans ho9)
    clear hr9 hk9 ho9 h1 h2
    go_wp2
    exact bodyPost_end (v := .tuple #[]) (by simp [results, Tryz.results29, go_sem]) rfl ⟨rfl, kp9, may9, (unhide H9).1, (unhide H9).2.1, unhide HO9, (unhide H9).2.2.1, (unhide H9).2.2.2⟩
set_option maxRecDepth 10000 in
set_option maxHeartbeats 2000000 in
theorem blown_cut_idle (h : RunRel W r b j ex inp d) (k n cut torn : Int) (kp may : Bool) (d' : M.Dev) (K N : Nat) (T : ByteArray) (er ve : Nat) (tx : ByteArray) (ask : Int) (s1 s2 s3 s4 s5 s6 t1 t2 t3 t4 t5 t6 : Int)
    (hev : ∀ X : World, Calls Tryz.prog 44 #[jobV j ex, .agg #[.int .i64 k, .int .i64 n, .int .i64 cut, .int .i64 torn]] X fun e w' => e = .returned (evV K N T cut torn) ∧ Below X.heap.size X w') (hT : T.size ≤ maxLen)
    (hdo : M.doM d ⟨K, N, T, cut, torn⟩ = (d', ⟨er, ve, tx, ask⟩)) (hst : statOf d = .agg #[.bool true, .int .i64 s1, .int .i64 s2, .int .i64 s3, .int .i64 s4, .int .i64 s5, .int .i64 s6]) (hst' : statOf d' = .agg #[.bool false, .int .i64 t1, .int .i64 t2, .int .i64 t3, .int .i64 t4, .int .i64 t5, .int .i64 t6])
    (hg : W.heap[g]? = some (.cells #[.bool kp, .bool may] 58 (0, 0))) (hgb : ¬ g = b) (hk7 : K = 7) (hs1 : ¬ s1 = 2) (he : er = 10) (hc : 0 ≤ cut)
    (hsd : ∀ X : World, RunRel X r b j ex inp d' → X.heap[g]? = some (.cells #[.bool kp, .bool may] 58 (0, 0)) → Calls Tryz.prog 45 #[.pointer (some ⟨r, 0, none⟩), .pointer (some ⟨g, 0, none⟩)] X fun e w' => SoundPost X r b g j ex inp d' e w') :
    Calls Tryz.prog 29 #[.pointer (some ⟨r, 0, none⟩), .pointer (some ⟨g, 0, none⟩), .agg #[.int .i64 k, .int .i64 n, .int .i64 cut, .int .i64 torn]] W fun e w' => SoundPost W r b g j ex inp d' e w' := by
  have HR := hide h
  have HG := hide hg
  have HEV := hide hev
  have HDO : Hid (∀ X : World, RunRel X r b j ex inp d → Calls Tryz.prog 34 #[.pointer (some ⟨r, 0, none⟩), evV K N T cut torn] X fun y w' => y = .returned (.agg #[.int .i64 (er : Nat), .int .i64 (ve : Nat), .string tx, .int .i64 ask]) ∧ RunRel w' r b j ex inp d' ∧ Only (· = b) X w') := by
    intro X hX
    refine (runDo_any hX ⟨K, N, T, cut, torn⟩ hT).mono fun y w' hp => ?_
    have hrel := hX.does hp
    obtain ⟨hy, _, ho⟩ := hp
    rw [hdo] at hrel hy
    exact ⟨hy, hrel, ho⟩
  have HS1 : Hid (∀ X : World, RunRel X r b j ex inp d → Calls Tryz.prog 28 #[.pointer (some ⟨r, 0, none⟩)] X fun e w' => e = .returned (.agg #[.bool true, .int .i64 s1, .int .i64 s2, .int .i64 s3, .int .i64 s4, .int .i64 s5, .int .i64 s6]) ∧ Below X.heap.size X w') := by
    intro X hX
    have := runStatus_any hX
    rwa [hst] at this
  have HS2 : Hid (∀ X : World, RunRel X r b j ex inp d' → Calls Tryz.prog 28 #[.pointer (some ⟨r, 0, none⟩)] X fun e w' => e = .returned (.agg #[.bool false, .int .i64 t1, .int .i64 t2, .int .i64 t3, .int .i64 t4, .int .i64 t5, .int .i64 t6]) ∧ Below X.heap.size X w') := by
    intro X hX
    have := runStatus_any hX
    rwa [hst'] at this
  have HSD := hide hsd
  subst he
  have H_hk7 := hide hk7
  clear hk7
  have hgl := (Array.getElem?_eq_some_iff.1 hg).1
  have hrl := h.lt.1
  have hbl := h.lt.2
  clear h hg hev hdo hst hst' hT hsd
  go_enter Tryz.func29, Tryz.ntmps29
  go_wp2_with fail
  refine (unhide HS1 _ ((unhide HR).kept ((Below.refl _ _).alloc (Nat.le_refl _) _))).mono ?_
  rintro e w1 ⟨rfl, hb1⟩
  obtain ⟨kB1, hs1, hbW1⟩ := blk1 hb1
  have HR1 := hide ((unhide HR).kept hbW1)
  have KG1 := hide (kept_block hbW1 (unhide HG))
  have KB1 := hide kB1
  have HO1 := hide (Only.of (p := Both b g) hbW1)
  have hsz1 := hbW1.size
  clear hb1 kB1 hbW1 HS1 HR HG
  go_wp2_with fail
  have rule1 : ∀ (Y : World) (o : Nat), Y.heap[W.heap.size]? = some (.cells #[.int .i64 k, .int .i64 n, .int .i64 cut, .int .i64 torn] 61 (0, 0)) → Y.cell? ⟨W.heap.size, o, none⟩ = (#[.int .i64 k, .int .i64 n, .int .i64 cut, .int .i64 torn] : Array Value)[o]? := fun Y o hh => cell_in hh o
  have rule2 : ∀ (Y : World) (o : Nat), Y.heap[r]? = some (.cells (runC b j ex inp true) 32 (0, 0)) → Y.cell? ⟨r, o, none⟩ = (runC b j ex inp true)[o]? := fun Y o hh => cell_in hh o
  have KA := hide (drew_block (ablk (o2 := .cells #[.bool true, .int .i64 s1, .int .i64 s2, .int .i64 s3, .int .i64 s4, .int .i64 s5, .int .i64 s6] 52) (unhide HR1).run))
  have KA2 := hide (ablk (o2 := .cells #[.bool true, .int .i64 s1, .int .i64 s2, .int .i64 s3, .int .i64 s4, .int .i64 s5, .int .i64 s6] 52) (unhide HR1).run)
  have KC := hide (ablk (o2 := .cells #[.bool true, .int .i64 s1, .int .i64 s2, .int .i64 s3, .int .i64 s4, .int .i64 s5, .int .i64 s6] 52) (unhide KB1))
  have KGx := hide (ablk (o2 := .cells #[.bool true, .int .i64 s1, .int .i64 s2, .int .i64 s3, .int .i64 s4, .int .i64 s5, .int .i64 s6] 52) (unhide KG1))
  have KSx := hide (last_block w1 (.cells #[.bool true, .int .i64 s1, .int .i64 s2, .int .i64 s3, .int .i64 s4, .int .i64 s5, .int .i64 s6] 52) rfl)
  have HRx := hide ((unhide HR1).kept ((Below.refl _ _).alloc (Nat.le_refl _) (.cells #[.bool true, .int .i64 s1, .int .i64 s2, .int .i64 s3, .int .i64 s4, .int .i64 s5, .int .i64 s6] 52)))
  have HOx := hide ((unhide HO1).trans (Only.of ((Below.refl _ _).alloc (Nat.le_refl _) (.cells #[.bool true, .int .i64 s1, .int .i64 s2, .int .i64 s3, .int .i64 s4, .int .i64 s5, .int .i64 s6] 52))))
  have hszx : (w1.alloc (.cells #[.bool true, .int .i64 s1, .int .i64 s2, .int .i64 s3, .int .i64 s4, .int .i64 s5, .int .i64 s6] 52)).heap.size = w1.heap.size + 1 := by simp
  refine cut_code (fun a Z => ∃ (q : Nat) (x12 x13 x14 x15 x16 x17 : Value), a = ⟨#[.pointer (some ⟨r, 0, none⟩), .pointer (some ⟨g, 0, none⟩), .agg #[.int .i64 k, .int .i64 n, .int .i64 cut, .int .i64 torn], undef, undef, .pointer (some ⟨W.heap.size, 0, none⟩), .pointer (some ⟨w1.heap.size, 0, none⟩), .pointer (some ⟨q, 0, none⟩), undef, undef, .pointer (some ⟨r, 0, none⟩), .agg #[.bool true, .int .i64 s1, .int .i64 s2, .int .i64 s3, .int .i64 s4, .int .i64 s5, .int .i64 s6], x12, x13, x14, x15, x16, x17, undef, undef, undef, undef, undef, undef, undef, undef, undef, undef, undef, undef, undef, undef, undef, undef, undef, undef, undef, undef, undef, undef, undef, undef, undef, undef, undef, undef, undef, undef, undef, undef, undef, undef, undef, undef, undef, undef, undef, undef, undef, undef, undef, undef, undef, undef, undef, undef, undef, undef, undef, undef, undef, undef, undef, undef, undef, undef, undef, undef, undef, undef, undef, undef, undef, undef, undef, undef, undef, undef, undef, undef, undef, undef, undef, undef, undef, undef, undef, undef, undef, undef, undef, undef, undef, undef, undef, undef, undef, undef, undef, undef], []⟩ ∧ Z.heap[q]? = some (.cells #[.int .i64 (K : Nat), .int .i64 (N : Nat), .string T, .int .i64 cut, .int .i64 torn] 74 (0, 0)) ∧ Z.heap[W.heap.size]? = some (.cells #[.int .i64 k, .int .i64 n, .int .i64 cut, .int .i64 torn] 61 (0, 0)) ∧ Z.heap[w1.heap.size]? = some (.cells #[.bool true, .int .i64 s1, .int .i64 s2, .int .i64 s3, .int .i64 s4, .int .i64 s5, .int .i64 s6] 52 (0, 0)) ∧ RunRel Z r b j ex inp d ∧ Z.heap[g]? = some (.cells #[.bool kp, .bool may] 58 (0, 0)) ∧ Only (Both b g) W Z ∧ w1.heap.size < q) ?_ ?_
  · clear KA
    have HSX := hide hszx
    have m1 : r < (w1.alloc (.cells #[.bool true, .int .i64 s1, .int .i64 s2, .int .i64 s3, .int .i64 s4, .int .i64 s5, .int .i64 s6] 52)).heap.size := by omega
    have m2 : W.heap.size < (w1.alloc (.cells #[.bool true, .int .i64 s1, .int .i64 s2, .int .i64 s3, .int .i64 s4, .int .i64 s5, .int .i64 s6] 52)).heap.size := by omega
    have m3 : g < (w1.alloc (.cells #[.bool true, .int .i64 s1, .int .i64 s2, .int .i64 s3, .int .i64 s4, .int .i64 s5, .int .i64 s6] 52)).heap.size := by omega
    have m4 : w1.heap.size < (w1.alloc (.cells #[.bool true, .int .i64 s1, .int .i64 s2, .int .i64 s3, .int .i64 s4, .int .i64 s5, .int .i64 s6] 52)).heap.size := by omega
    have m5 : b < (w1.alloc (.cells #[.bool true, .int .i64 s1, .int .i64 s2, .int .i64 s3, .int .i64 s4, .int .i64 s5, .int .i64 s6] 52)).heap.size := by omega
    clear hszx
    generalize (w1.alloc (.cells #[.bool true, .int .i64 s1, .int .i64 s2, .int .i64 s3, .int .i64 s4, .int .i64 s5, .int .i64 s6] 52)) = Y1 at *
    go_region_held3 (fun Y => Y.heap[r]? = some (.cells (runC b j ex inp true) 32 (0, 0)) ∧ Y.heap[W.heap.size]? = some (.cells #[.int .i64 k, .int .i64 n, .int .i64 cut, .int .i64 torn] 61 (0, 0))) (refine ⟨?_, ?_⟩ <;> (repeat (first | with_reducible exact hC1 | with_reducible exact hC2 | with_reducible exact unhide KA2 | with_reducible exact unhide KC | with_reducible refine ablk ?_ | with_reducible refine drew_block ?_ | (with_reducible refine sblk ?_ ?_; (focus omega))))) ((go_at_call 44; with_reducible refine (unhide HEV _).mono ?_; rintro y wN ⟨rfl, hbN⟩; have hsN := hbN.size; have hC1 : wN.heap[r]? = some (.cells (runC b j ex inp true) 32 (0, 0)) := kept_block hbN (by repeat (first | with_reducible exact unhide KA2 | with_reducible refine ablk ?_ | with_reducible refine drew_block ?_)); have hC2 : wN.heap[W.heap.size]? = some (.cells #[.int .i64 k, .int .i64 n, .int .i64 cut, .int .i64 torn] 61 (0, 0)) := kept_block hbN (by repeat (first | with_reducible exact unhide KC | with_reducible refine ablk ?_ | with_reducible refine drew_block ?_)); (first | (have hK : wN.heap[Y1.heap.size]? = some (.cells #[.int .i64 0, .int .i64 0, .string ⟨#[]⟩, .int .i64 0, .int .i64 0] 74 (0, 0)) := kept_block hbN (drew_block (last_block _ _ rfl)); have hNx := (block_facts hK).1; have hNf := (block_facts hK).2; have hNl := (Array.getElem?_eq_some_iff.1 hK).1) | (have hK : wN.heap[Y1.heap.size]? = some (.cells #[.int .i64 0, .int .i64 0, .string ⟨#[]⟩, .int .i64 0, .int .i64 0] 74 (0, 0)) := kept_block hbN (last_block Y1.drew _ rfl); have hNx := (block_facts hK).1; have hNf := (block_facts hK).2; have hNl := (Array.getElem?_eq_some_iff.1 hK).1) | (have hK : wN.heap[Y1.heap.size]? = some (.cells #[.int .i64 0, .int .i64 0, .string ⟨#[]⟩, .int .i64 0, .int .i64 0] 74 (0, 0)) := kept_block hbN (last_block Y1 _ rfl); have hNx := (block_facts hK).1; have hNf := (block_facts hK).2; have hNl := (Array.getElem?_eq_some_iff.1 hK).1) | skip)))
    all_goals
      have HbN : Hid (Below Y1.heap.size Y1 wN) := (by first | exact (Below.refl Y1.heap.size Y1).drew.trans hbN | exact ((Below.refl Y1.heap.size Y1).alloc (Nat.le_refl _) _).drew.trans (hbN.mono (by show Y1.heap.size ≤ (World.alloc _ _).heap.size; simp)))
      have hsN1 := (unhide HbN).size
      refine ⟨rfl, _, _, _, _, _, _, _, rfl, ?_, ?_, ?_, ?_, ?_, ?_, ?_⟩
      · first | with_reducible exact last_block _ _ rfl | with_reducible exact setRow5 hK | with_reducible exact drew_block (last_block _ _ rfl) | with_reducible exact drew_block (setRow5 hK)
      · refine kept_block (X := Y1) ?_ (unhide KC)
        repeat (first | with_reducible exact unhide HbN | with_reducible refine bdrew ?_ | (with_reducible refine bset ?_ ?_; (focus (first | omega | (simp; done) | (simp; omega)))) | (with_reducible refine balloc ?_ ?_; (focus (first | omega | (simp; done) | (simp; omega)))))
      · refine kept_block (X := Y1) ?_ (unhide KSx)
        repeat (first | with_reducible exact unhide HbN | with_reducible refine bdrew ?_ | (with_reducible refine bset ?_ ?_; (focus (first | omega | (simp; done) | (simp; omega)))) | (with_reducible refine balloc ?_ ?_; (focus (first | omega | (simp; done) | (simp; omega)))))
      · refine (unhide HRx).kept ?_
        repeat (first | with_reducible exact unhide HbN | with_reducible refine bdrew ?_ | (with_reducible refine bset ?_ ?_; (focus (first | omega | (simp; done) | (simp; omega)))) | (with_reducible refine balloc ?_ ?_; (focus (first | omega | (simp; done) | (simp; omega)))))
      · refine kept_block (X := Y1) ?_ (unhide KGx)
        repeat (first | with_reducible exact unhide HbN | with_reducible refine bdrew ?_ | (with_reducible refine bset ?_ ?_; (focus (first | omega | (simp; done) | (simp; omega)))) | (with_reducible refine balloc ?_ ?_; (focus (first | omega | (simp; done) | (simp; omega)))))
      · refine (unhide HOx).trans (Only.of ?_)
        repeat (first | with_reducible exact unhide HbN | with_reducible refine bdrew ?_ | (with_reducible refine bset ?_ ?_; (focus (first | omega | (simp; done) | (simp; omega)))) | (with_reducible refine balloc ?_ ?_; (focus (first | omega | (simp; done) | (simp; omega)))))
      · omega
  · rintro _ Z ⟨q, x12, x13, x14, x15, x16, x17, rfl, kE, kB, kS, hrZ, kG, hoZ, hq⟩
    clear HEV HR1 KG1 KB1 HO1 KA KA2 KC KGx KSx HRx HOx hszx rule1 rule2
    have hk7 := unhide H_hk7
    subst hk7
    have KE := hide kE
    have KB := hide kB
    have KS := hide kS
    have KG := hide kG
    have HOZ := hide hoZ
    have lq := (Array.getElem?_eq_some_iff.1 kE).1
    have lB := (Array.getElem?_eq_some_iff.1 kB).1
    have lS := (Array.getElem?_eq_some_iff.1 kS).1
    have lG := (Array.getElem?_eq_some_iff.1 kG).1
    obtain ⟨hxE, hfE⟩ := block_facts kE
    have HRZ := hide hrZ
    clear kE kB kS kG hoZ hrZ
    go_wp2_with fail
    refine (unhide HDO _ (unhide HRZ)).mono ?_
    rintro y w3 ⟨rfl, hr3, ho3⟩
    have KE3 := hide ((ho3.block q lq (by omega)).trans (unhide KE))
    have KB3 := hide ((ho3.block W.heap.size lB (by omega)).trans (unhide KB))
    have KS3 := hide ((ho3.block w1.heap.size lS (by omega)).trans (unhide KS))
    have KG3 := hide ((ho3.block g lG hgb).trans (unhide KG))
    have HO3 := hide ((unhide HOZ).trans (only_both ho3))
    have HR3 := hide hr3
    have hs3 := ho3.size
    clear hr3 ho3 hxE hfE KE KB KS KG HOZ HRZ HDO
    go_wp2_with fail
    refine (unhide HS2 _ ((unhide HR3).kept ((Below.refl _ _).alloc (Nat.le_refl _) _))).mono ?_
    rintro e w4 ⟨rfl, hb4⟩
    obtain ⟨kR4, hl4, hbW4⟩ := blk1 hb4
    have kE4 := kept_block hbW4 (unhide KE3)
    have kB4 := kept_block hbW4 (unhide KB3)
    have kS4 := kept_block hbW4 (unhide KS3)
    have kG4 := kept_block hbW4 (unhide KG3)
    have HR4 := hide ((unhide HR3).kept hbW4)
    have HO4 := hide ((unhide HO3).trans (Only.of hbW4))
    obtain ⟨hxr, hfr⟩ := block_facts (unhide HR4).run
    obtain ⟨hxE, hfE⟩ := block_facts kE4
    obtain ⟨hxB, hfB⟩ := block_facts kB4
    obtain ⟨hxS, hfS⟩ := block_facts kS4
    obtain ⟨hxR, hfR⟩ := block_facts kR4
    obtain ⟨hxg, hfg⟩ := block_facts kG4
    have KG4 := hide kG4
    have l1 := (Array.getElem?_eq_some_iff.1 kE4).1
    have l2 := (Array.getElem?_eq_some_iff.1 kB4).1
    have l3 := (Array.getElem?_eq_some_iff.1 kS4).1
    have l4 := (Array.getElem?_eq_some_iff.1 kG4).1
    have l5 := (unhide HR4).lt.1
    have n1 : ¬ q = w4.heap.size := by omega
    have n2 : ¬ W.heap.size = w4.heap.size := by omega
    have n3 : ¬ w1.heap.size = w4.heap.size := by omega
    have n4 : ¬ g = w4.heap.size := by omega
    have n5 : ¬ r = w4.heap.size := by omega
    have n6 : ¬ w3.heap.size = w4.heap.size := by omega
    have n7 : ¬ w3.heap.size = g := by omega
    have n8 : ¬ g = w3.heap.size := by omega
    clear hb4 kR4 hbW4 kE4 kB4 kS4 kG4 HR3 KE3 KB3 KS3 KG3 HO3 HS2 lq lB lS lG
    go_wp2_with fail
    refine (must_true _ _).mono ?_
    rintro e _ ⟨rfl, rfl⟩
    go_wp2_with fail
    refine (unhide HSD _ ((unhide HR4).kept ((Below.refl _ _).alloc (Nat.le_refl _) _)) (ablk (unhide KG4))).mono ?_
    rintro e w9 ⟨rfl, kp9, may9, hr9, hk9, ho9, h1, h2⟩
    have H9 := hide (And.intro hr9 (And.intro hk9 (And.intro h1 h2)))
    have HO9 := hide (((unhide HO4).trans (Only.of ((Below.refl _ _).alloc (Nat.le_refl _) _))).trans ho9)
    clear hr9 hk9 ho9 h1 h2
    go_wp2
    exact bodyPost_end (v := .tuple #[]) (by simp [results, Tryz.results29, go_sem]) rfl ⟨rfl, kp9, may9, (unhide H9).1, (unhide H9).2.1, unhide HO9, (unhide H9).2.2.1, (unhide H9).2.2.2⟩
set_option maxRecDepth 10000 in
set_option maxHeartbeats 2000000 in
theorem blown_cut_trial (h : RunRel W r b j ex inp d) (k n cut torn : Int) (kp may : Bool) (d' : M.Dev) (K N : Nat) (T : ByteArray) (er ve : Nat) (tx : ByteArray) (ask : Int) (s1 s2 s3 s4 s5 s6 t1 t2 t3 t4 t5 t6 : Int)
    (hev : ∀ X : World, Calls Tryz.prog 44 #[jobV j ex, .agg #[.int .i64 k, .int .i64 n, .int .i64 cut, .int .i64 torn]] X fun e w' => e = .returned (evV K N T cut torn) ∧ Below X.heap.size X w') (hT : T.size ≤ maxLen)
    (hdo : M.doM d ⟨K, N, T, cut, torn⟩ = (d', ⟨er, ve, tx, ask⟩)) (hst : statOf d = .agg #[.bool true, .int .i64 s1, .int .i64 s2, .int .i64 s3, .int .i64 s4, .int .i64 s5, .int .i64 s6]) (hst' : statOf d' = .agg #[.bool false, .int .i64 t1, .int .i64 t2, .int .i64 t3, .int .i64 t4, .int .i64 t5, .int .i64 t6])
    (hg : W.heap[g]? = some (.cells #[.bool kp, .bool may] 58 (0, 0))) (hgb : ¬ g = b) (hgr : ¬ g = r) (hk7 : K = 7) (hs1 : s1 = 2) (he : er = 10) (hc : 0 ≤ cut)
    (hsd : ∀ X : World, RunRel X r b j ex inp d' → X.heap[g]? = some (.cells #[.bool false, .bool true] 58 (0, 0)) → Calls Tryz.prog 45 #[.pointer (some ⟨r, 0, none⟩), .pointer (some ⟨g, 0, none⟩)] X fun e w' => SoundPost X r b g j ex inp d' e w') :
    Calls Tryz.prog 29 #[.pointer (some ⟨r, 0, none⟩), .pointer (some ⟨g, 0, none⟩), .agg #[.int .i64 k, .int .i64 n, .int .i64 cut, .int .i64 torn]] W fun e w' => SoundPost W r b g j ex inp d' e w' := by
  have HR := hide h
  have HG := hide hg
  have HEV := hide hev
  have HDO : Hid (∀ X : World, RunRel X r b j ex inp d → Calls Tryz.prog 34 #[.pointer (some ⟨r, 0, none⟩), evV K N T cut torn] X fun y w' => y = .returned (.agg #[.int .i64 (er : Nat), .int .i64 (ve : Nat), .string tx, .int .i64 ask]) ∧ RunRel w' r b j ex inp d' ∧ Only (· = b) X w') := by
    intro X hX
    refine (runDo_any hX ⟨K, N, T, cut, torn⟩ hT).mono fun y w' hp => ?_
    have hrel := hX.does hp
    obtain ⟨hy, _, ho⟩ := hp
    rw [hdo] at hrel hy
    exact ⟨hy, hrel, ho⟩
  have HS1 : Hid (∀ X : World, RunRel X r b j ex inp d → Calls Tryz.prog 28 #[.pointer (some ⟨r, 0, none⟩)] X fun e w' => e = .returned (.agg #[.bool true, .int .i64 s1, .int .i64 s2, .int .i64 s3, .int .i64 s4, .int .i64 s5, .int .i64 s6]) ∧ Below X.heap.size X w') := by
    intro X hX
    have := runStatus_any hX
    rwa [hst] at this
  have HS2 : Hid (∀ X : World, RunRel X r b j ex inp d' → Calls Tryz.prog 28 #[.pointer (some ⟨r, 0, none⟩)] X fun e w' => e = .returned (.agg #[.bool false, .int .i64 t1, .int .i64 t2, .int .i64 t3, .int .i64 t4, .int .i64 t5, .int .i64 t6]) ∧ Below X.heap.size X w') := by
    intro X hX
    have := runStatus_any hX
    rwa [hst'] at this
  have HSD := hide hsd
  subst he
  have H_hk7 := hide hk7
  clear hk7
  have H_hs1 := hide hs1
  clear hs1
  have hgl := (Array.getElem?_eq_some_iff.1 hg).1
  have hrl := h.lt.1
  have hbl := h.lt.2
  clear h hg hev hdo hst hst' hT hsd
  go_enter Tryz.func29, Tryz.ntmps29
  go_wp2_with fail
  refine (unhide HS1 _ ((unhide HR).kept ((Below.refl _ _).alloc (Nat.le_refl _) _))).mono ?_
  rintro e w1 ⟨rfl, hb1⟩
  obtain ⟨kB1, hs1, hbW1⟩ := blk1 hb1
  have HR1 := hide ((unhide HR).kept hbW1)
  have KG1 := hide (kept_block hbW1 (unhide HG))
  have KB1 := hide kB1
  have HO1 := hide (Only.of (p := Both b g) hbW1)
  have hsz1 := hbW1.size
  clear hb1 kB1 hbW1 HS1 HR HG
  go_wp2_with fail
  have rule1 : ∀ (Y : World) (o : Nat), Y.heap[W.heap.size]? = some (.cells #[.int .i64 k, .int .i64 n, .int .i64 cut, .int .i64 torn] 61 (0, 0)) → Y.cell? ⟨W.heap.size, o, none⟩ = (#[.int .i64 k, .int .i64 n, .int .i64 cut, .int .i64 torn] : Array Value)[o]? := fun Y o hh => cell_in hh o
  have rule2 : ∀ (Y : World) (o : Nat), Y.heap[r]? = some (.cells (runC b j ex inp true) 32 (0, 0)) → Y.cell? ⟨r, o, none⟩ = (runC b j ex inp true)[o]? := fun Y o hh => cell_in hh o
  have KA := hide (drew_block (ablk (o2 := .cells #[.bool true, .int .i64 s1, .int .i64 s2, .int .i64 s3, .int .i64 s4, .int .i64 s5, .int .i64 s6] 52) (unhide HR1).run))
  have KA2 := hide (ablk (o2 := .cells #[.bool true, .int .i64 s1, .int .i64 s2, .int .i64 s3, .int .i64 s4, .int .i64 s5, .int .i64 s6] 52) (unhide HR1).run)
  have KC := hide (ablk (o2 := .cells #[.bool true, .int .i64 s1, .int .i64 s2, .int .i64 s3, .int .i64 s4, .int .i64 s5, .int .i64 s6] 52) (unhide KB1))
  have KGx := hide (ablk (o2 := .cells #[.bool true, .int .i64 s1, .int .i64 s2, .int .i64 s3, .int .i64 s4, .int .i64 s5, .int .i64 s6] 52) (unhide KG1))
  have KSx := hide (last_block w1 (.cells #[.bool true, .int .i64 s1, .int .i64 s2, .int .i64 s3, .int .i64 s4, .int .i64 s5, .int .i64 s6] 52) rfl)
  have HRx := hide ((unhide HR1).kept ((Below.refl _ _).alloc (Nat.le_refl _) (.cells #[.bool true, .int .i64 s1, .int .i64 s2, .int .i64 s3, .int .i64 s4, .int .i64 s5, .int .i64 s6] 52)))
  have HOx := hide ((unhide HO1).trans (Only.of ((Below.refl _ _).alloc (Nat.le_refl _) (.cells #[.bool true, .int .i64 s1, .int .i64 s2, .int .i64 s3, .int .i64 s4, .int .i64 s5, .int .i64 s6] 52))))
  have hszx : (w1.alloc (.cells #[.bool true, .int .i64 s1, .int .i64 s2, .int .i64 s3, .int .i64 s4, .int .i64 s5, .int .i64 s6] 52)).heap.size = w1.heap.size + 1 := by simp
  refine cut_code (fun a Z => ∃ (q : Nat) (x12 x13 x14 x15 x16 x17 : Value), a = ⟨#[.pointer (some ⟨r, 0, none⟩), .pointer (some ⟨g, 0, none⟩), .agg #[.int .i64 k, .int .i64 n, .int .i64 cut, .int .i64 torn], undef, undef, .pointer (some ⟨W.heap.size, 0, none⟩), .pointer (some ⟨w1.heap.size, 0, none⟩), .pointer (some ⟨q, 0, none⟩), undef, undef, .pointer (some ⟨r, 0, none⟩), .agg #[.bool true, .int .i64 s1, .int .i64 s2, .int .i64 s3, .int .i64 s4, .int .i64 s5, .int .i64 s6], x12, x13, x14, x15, x16, x17, undef, undef, undef, undef, undef, undef, undef, undef, undef, undef, undef, undef, undef, undef, undef, undef, undef, undef, undef, undef, undef, undef, undef, undef, undef, undef, undef, undef, undef, undef, undef, undef, undef, undef, undef, undef, undef, undef, undef, undef, undef, undef, undef, undef, undef, undef, undef, undef, undef, undef, undef, undef, undef, undef, undef, undef, undef, undef, undef, undef, undef, undef, undef, undef, undef, undef, undef, undef, undef, undef, undef, undef, undef, undef, undef, undef, undef, undef, undef, undef, undef, undef, undef, undef, undef, undef, undef, undef, undef, undef, undef, undef], []⟩ ∧ Z.heap[q]? = some (.cells #[.int .i64 (K : Nat), .int .i64 (N : Nat), .string T, .int .i64 cut, .int .i64 torn] 74 (0, 0)) ∧ Z.heap[W.heap.size]? = some (.cells #[.int .i64 k, .int .i64 n, .int .i64 cut, .int .i64 torn] 61 (0, 0)) ∧ Z.heap[w1.heap.size]? = some (.cells #[.bool true, .int .i64 s1, .int .i64 s2, .int .i64 s3, .int .i64 s4, .int .i64 s5, .int .i64 s6] 52 (0, 0)) ∧ RunRel Z r b j ex inp d ∧ Z.heap[g]? = some (.cells #[.bool kp, .bool may] 58 (0, 0)) ∧ Only (Both b g) W Z ∧ w1.heap.size < q) ?_ ?_
  · clear KA
    have HSX := hide hszx
    have m1 : r < (w1.alloc (.cells #[.bool true, .int .i64 s1, .int .i64 s2, .int .i64 s3, .int .i64 s4, .int .i64 s5, .int .i64 s6] 52)).heap.size := by omega
    have m2 : W.heap.size < (w1.alloc (.cells #[.bool true, .int .i64 s1, .int .i64 s2, .int .i64 s3, .int .i64 s4, .int .i64 s5, .int .i64 s6] 52)).heap.size := by omega
    have m3 : g < (w1.alloc (.cells #[.bool true, .int .i64 s1, .int .i64 s2, .int .i64 s3, .int .i64 s4, .int .i64 s5, .int .i64 s6] 52)).heap.size := by omega
    have m4 : w1.heap.size < (w1.alloc (.cells #[.bool true, .int .i64 s1, .int .i64 s2, .int .i64 s3, .int .i64 s4, .int .i64 s5, .int .i64 s6] 52)).heap.size := by omega
    have m5 : b < (w1.alloc (.cells #[.bool true, .int .i64 s1, .int .i64 s2, .int .i64 s3, .int .i64 s4, .int .i64 s5, .int .i64 s6] 52)).heap.size := by omega
    clear hszx
    generalize (w1.alloc (.cells #[.bool true, .int .i64 s1, .int .i64 s2, .int .i64 s3, .int .i64 s4, .int .i64 s5, .int .i64 s6] 52)) = Y1 at *
    go_region_held3 (fun Y => Y.heap[r]? = some (.cells (runC b j ex inp true) 32 (0, 0)) ∧ Y.heap[W.heap.size]? = some (.cells #[.int .i64 k, .int .i64 n, .int .i64 cut, .int .i64 torn] 61 (0, 0))) (refine ⟨?_, ?_⟩ <;> (repeat (first | with_reducible exact hC1 | with_reducible exact hC2 | with_reducible exact unhide KA2 | with_reducible exact unhide KC | with_reducible refine ablk ?_ | with_reducible refine drew_block ?_ | (with_reducible refine sblk ?_ ?_; (focus omega))))) ((go_at_call 44; with_reducible refine (unhide HEV _).mono ?_; rintro y wN ⟨rfl, hbN⟩; have hsN := hbN.size; have hC1 : wN.heap[r]? = some (.cells (runC b j ex inp true) 32 (0, 0)) := kept_block hbN (by repeat (first | with_reducible exact unhide KA2 | with_reducible refine ablk ?_ | with_reducible refine drew_block ?_)); have hC2 : wN.heap[W.heap.size]? = some (.cells #[.int .i64 k, .int .i64 n, .int .i64 cut, .int .i64 torn] 61 (0, 0)) := kept_block hbN (by repeat (first | with_reducible exact unhide KC | with_reducible refine ablk ?_ | with_reducible refine drew_block ?_)); (first | (have hK : wN.heap[Y1.heap.size]? = some (.cells #[.int .i64 0, .int .i64 0, .string ⟨#[]⟩, .int .i64 0, .int .i64 0] 74 (0, 0)) := kept_block hbN (drew_block (last_block _ _ rfl)); have hNx := (block_facts hK).1; have hNf := (block_facts hK).2; have hNl := (Array.getElem?_eq_some_iff.1 hK).1) | (have hK : wN.heap[Y1.heap.size]? = some (.cells #[.int .i64 0, .int .i64 0, .string ⟨#[]⟩, .int .i64 0, .int .i64 0] 74 (0, 0)) := kept_block hbN (last_block Y1.drew _ rfl); have hNx := (block_facts hK).1; have hNf := (block_facts hK).2; have hNl := (Array.getElem?_eq_some_iff.1 hK).1) | (have hK : wN.heap[Y1.heap.size]? = some (.cells #[.int .i64 0, .int .i64 0, .string ⟨#[]⟩, .int .i64 0, .int .i64 0] 74 (0, 0)) := kept_block hbN (last_block Y1 _ rfl); have hNx := (block_facts hK).1; have hNf := (block_facts hK).2; have hNl := (Array.getElem?_eq_some_iff.1 hK).1) | skip)))
    all_goals
      have HbN : Hid (Below Y1.heap.size Y1 wN) := (by first | exact (Below.refl Y1.heap.size Y1).drew.trans hbN | exact ((Below.refl Y1.heap.size Y1).alloc (Nat.le_refl _) _).drew.trans (hbN.mono (by show Y1.heap.size ≤ (World.alloc _ _).heap.size; simp)))
      have hsN1 := (unhide HbN).size
      refine ⟨rfl, _, _, _, _, _, _, _, rfl, ?_, ?_, ?_, ?_, ?_, ?_, ?_⟩
      · first | with_reducible exact last_block _ _ rfl | with_reducible exact setRow5 hK | with_reducible exact drew_block (last_block _ _ rfl) | with_reducible exact drew_block (setRow5 hK)
      · refine kept_block (X := Y1) ?_ (unhide KC)
        repeat (first | with_reducible exact unhide HbN | with_reducible refine bdrew ?_ | (with_reducible refine bset ?_ ?_; (focus (first | omega | (simp; done) | (simp; omega)))) | (with_reducible refine balloc ?_ ?_; (focus (first | omega | (simp; done) | (simp; omega)))))
      · refine kept_block (X := Y1) ?_ (unhide KSx)
        repeat (first | with_reducible exact unhide HbN | with_reducible refine bdrew ?_ | (with_reducible refine bset ?_ ?_; (focus (first | omega | (simp; done) | (simp; omega)))) | (with_reducible refine balloc ?_ ?_; (focus (first | omega | (simp; done) | (simp; omega)))))
      · refine (unhide HRx).kept ?_
        repeat (first | with_reducible exact unhide HbN | with_reducible refine bdrew ?_ | (with_reducible refine bset ?_ ?_; (focus (first | omega | (simp; done) | (simp; omega)))) | (with_reducible refine balloc ?_ ?_; (focus (first | omega | (simp; done) | (simp; omega)))))
      · refine kept_block (X := Y1) ?_ (unhide KGx)
        repeat (first | with_reducible exact unhide HbN | with_reducible refine bdrew ?_ | (with_reducible refine bset ?_ ?_; (focus (first | omega | (simp; done) | (simp; omega)))) | (with_reducible refine balloc ?_ ?_; (focus (first | omega | (simp; done) | (simp; omega)))))
      · refine (unhide HOx).trans (Only.of ?_)
        repeat (first | with_reducible exact unhide HbN | with_reducible refine bdrew ?_ | (with_reducible refine bset ?_ ?_; (focus (first | omega | (simp; done) | (simp; omega)))) | (with_reducible refine balloc ?_ ?_; (focus (first | omega | (simp; done) | (simp; omega)))))
      · omega
  · rintro _ Z ⟨q, x12, x13, x14, x15, x16, x17, rfl, kE, kB, kS, hrZ, kG, hoZ, hq⟩
    clear HEV HR1 KG1 KB1 HO1 KA KA2 KC KGx KSx HRx HOx hszx rule1 rule2
    have hk7 := unhide H_hk7
    subst hk7
    have hs1 := unhide H_hs1
    subst hs1
    have KE := hide kE
    have KB := hide kB
    have KS := hide kS
    have KG := hide kG
    have HOZ := hide hoZ
    have lq := (Array.getElem?_eq_some_iff.1 kE).1
    have lB := (Array.getElem?_eq_some_iff.1 kB).1
    have lS := (Array.getElem?_eq_some_iff.1 kS).1
    have lG := (Array.getElem?_eq_some_iff.1 kG).1
    obtain ⟨hxE, hfE⟩ := block_facts kE
    have HRZ := hide hrZ
    clear kE kB kS kG hoZ hrZ
    go_wp2_with fail
    refine (unhide HDO _ (unhide HRZ)).mono ?_
    rintro y w3 ⟨rfl, hr3, ho3⟩
    have KE3 := hide ((ho3.block q lq (by omega)).trans (unhide KE))
    have KB3 := hide ((ho3.block W.heap.size lB (by omega)).trans (unhide KB))
    have KS3 := hide ((ho3.block w1.heap.size lS (by omega)).trans (unhide KS))
    have KG3 := hide ((ho3.block g lG hgb).trans (unhide KG))
    have HO3 := hide ((unhide HOZ).trans (only_both ho3))
    have HR3 := hide hr3
    have hs3 := ho3.size
    clear hr3 ho3 hxE hfE KE KB KS KG HOZ HRZ HDO
    go_wp2_with fail
    refine (unhide HS2 _ ((unhide HR3).kept ((Below.refl _ _).alloc (Nat.le_refl _) _))).mono ?_
    rintro e w4 ⟨rfl, hb4⟩
    obtain ⟨kR4, hl4, hbW4⟩ := blk1 hb4
    have kE4 := kept_block hbW4 (unhide KE3)
    have kB4 := kept_block hbW4 (unhide KB3)
    have kS4 := kept_block hbW4 (unhide KS3)
    have kG4 := kept_block hbW4 (unhide KG3)
    have HR4 := hide ((unhide HR3).kept hbW4)
    have HO4 := hide ((unhide HO3).trans (Only.of hbW4))
    obtain ⟨hxr, hfr⟩ := block_facts (unhide HR4).run
    obtain ⟨hxE, hfE⟩ := block_facts kE4
    obtain ⟨hxB, hfB⟩ := block_facts kB4
    obtain ⟨hxS, hfS⟩ := block_facts kS4
    obtain ⟨hxR, hfR⟩ := block_facts kR4
    obtain ⟨hxg, hfg⟩ := block_facts kG4
    have KG4 := hide kG4
    have l1 := (Array.getElem?_eq_some_iff.1 kE4).1
    have l2 := (Array.getElem?_eq_some_iff.1 kB4).1
    have l3 := (Array.getElem?_eq_some_iff.1 kS4).1
    have l4 := (Array.getElem?_eq_some_iff.1 kG4).1
    have l5 := (unhide HR4).lt.1
    have n1 : ¬ q = w4.heap.size := by omega
    have n2 : ¬ W.heap.size = w4.heap.size := by omega
    have n3 : ¬ w1.heap.size = w4.heap.size := by omega
    have n4 : ¬ g = w4.heap.size := by omega
    have n5 : ¬ r = w4.heap.size := by omega
    have n6 : ¬ w3.heap.size = w4.heap.size := by omega
    have n7 : ¬ w3.heap.size = g := by omega
    have n8 : ¬ g = w3.heap.size := by omega
    clear hb4 kR4 hbW4 kE4 kB4 kS4 kG4 HR3 KE3 KB3 KS3 KG3 HO3 HS2 lq lB lS lG
    go_wp2_with fail
    refine (must_true _ _).mono ?_
    rintro e _ ⟨rfl, rfl⟩
    go_wp2_with fail
    refine (unhide HSD _ ((watch_set (watch_set (unhide HR4) hgb hgr) hgb hgr).kept ((Below.refl _ _).alloc (Nat.le_refl _) _)) (ablk ((setCell_in ((setCell_in (unhide KG4) 0 (.bool false)).trans rfl) 1 (.bool true)).trans rfl))).mono ?_
    rintro e w9 ⟨rfl, kp9, may9, hr9, hk9, ho9, h1, h2⟩
    have H9 := hide (And.intro hr9 (And.intro hk9 (And.intro h1 h2)))
    have HO9 := hide (((both_set (both_set (unhide HO4))).trans (Only.of ((Below.refl _ _).alloc (Nat.le_refl _) _))).trans ho9)
    clear hr9 hk9 ho9 h1 h2
    go_wp2
    exact bodyPost_end (v := .tuple #[]) (by simp [results, Tryz.results29, go_sem]) rfl ⟨rfl, kp9, may9, (unhide H9).1, (unhide H9).2.1, unhide HO9, (unhide H9).2.2.1, (unhide H9).2.2.2⟩
set_option maxRecDepth 10000 in
set_option maxHeartbeats 2000000 in
theorem blown_boot (h : RunRel W r b j ex inp d) (k n cut torn : Int) (kp may : Bool) (d' : M.Dev) (K N : Nat) (T : ByteArray) (er ve : Nat) (tx : ByteArray) (ask : Int) (s1 s2 s3 s4 s5 s6 t1 t2 t3 t4 t5 t6 : Int)
    (hev : ∀ X : World, Calls Tryz.prog 44 #[jobV j ex, .agg #[.int .i64 k, .int .i64 n, .int .i64 cut, .int .i64 torn]] X fun e w' => e = .returned (evV K N T cut torn) ∧ Below X.heap.size X w') (hT : T.size ≤ maxLen)
    (hdo : M.doM d ⟨K, N, T, cut, torn⟩ = (d', ⟨er, ve, tx, ask⟩)) (hst : statOf d = .agg #[.bool false, .int .i64 s1, .int .i64 s2, .int .i64 s3, .int .i64 s4, .int .i64 s5, .int .i64 s6]) (hst' : statOf d' = .agg #[.bool true, .int .i64 t1, .int .i64 t2, .int .i64 t3, .int .i64 t4, .int .i64 t5, .int .i64 t6])
    (hg : W.heap[g]? = some (.cells #[.bool kp, .bool may] 58 (0, 0))) (hgb : ¬ g = b) (hk2 : K = 2) (he : ¬ er = 10)
    (hsd : ∀ X : World, RunRel X r b j ex inp d' → X.heap[g]? = some (.cells #[.bool kp, .bool may] 58 (0, 0)) → Calls Tryz.prog 45 #[.pointer (some ⟨r, 0, none⟩), .pointer (some ⟨g, 0, none⟩)] X fun e w' => SoundPost X r b g j ex inp d' e w') :
    Calls Tryz.prog 29 #[.pointer (some ⟨r, 0, none⟩), .pointer (some ⟨g, 0, none⟩), .agg #[.int .i64 k, .int .i64 n, .int .i64 cut, .int .i64 torn]] W fun e w' => SoundPost W r b g j ex inp d' e w' := by
  have HR := hide h
  have HG := hide hg
  have HEV := hide hev
  have HDO : Hid (∀ X : World, RunRel X r b j ex inp d → Calls Tryz.prog 34 #[.pointer (some ⟨r, 0, none⟩), evV K N T cut torn] X fun y w' => y = .returned (.agg #[.int .i64 (er : Nat), .int .i64 (ve : Nat), .string tx, .int .i64 ask]) ∧ RunRel w' r b j ex inp d' ∧ Only (· = b) X w') := by
    intro X hX
    refine (runDo_any hX ⟨K, N, T, cut, torn⟩ hT).mono fun y w' hp => ?_
    have hrel := hX.does hp
    obtain ⟨hy, _, ho⟩ := hp
    rw [hdo] at hrel hy
    exact ⟨hy, hrel, ho⟩
  have HS1 : Hid (∀ X : World, RunRel X r b j ex inp d → Calls Tryz.prog 28 #[.pointer (some ⟨r, 0, none⟩)] X fun e w' => e = .returned (.agg #[.bool false, .int .i64 s1, .int .i64 s2, .int .i64 s3, .int .i64 s4, .int .i64 s5, .int .i64 s6]) ∧ Below X.heap.size X w') := by
    intro X hX
    have := runStatus_any hX
    rwa [hst] at this
  have HS2 : Hid (∀ X : World, RunRel X r b j ex inp d' → Calls Tryz.prog 28 #[.pointer (some ⟨r, 0, none⟩)] X fun e w' => e = .returned (.agg #[.bool true, .int .i64 t1, .int .i64 t2, .int .i64 t3, .int .i64 t4, .int .i64 t5, .int .i64 t6]) ∧ Below X.heap.size X w') := by
    intro X hX
    have := runStatus_any hX
    rwa [hst'] at this
  have HSD := hide hsd
  have H_hk2 := hide hk2
  clear hk2
  have he' : ¬ (er : Int) = 10 := by omega
  have hgl := (Array.getElem?_eq_some_iff.1 hg).1
  have hrl := h.lt.1
  have hbl := h.lt.2
  clear h hg hev hdo hst hst' hT hsd
  go_enter Tryz.func29, Tryz.ntmps29
  go_wp2_with fail
  refine (unhide HS1 _ ((unhide HR).kept ((Below.refl _ _).alloc (Nat.le_refl _) _))).mono ?_
  rintro e w1 ⟨rfl, hb1⟩
  obtain ⟨kB1, hs1, hbW1⟩ := blk1 hb1
  have HR1 := hide ((unhide HR).kept hbW1)
  have KG1 := hide (kept_block hbW1 (unhide HG))
  have KB1 := hide kB1
  have HO1 := hide (Only.of (p := Both b g) hbW1)
  have hsz1 := hbW1.size
  clear hb1 kB1 hbW1 HS1 HR HG
  go_wp2_with fail
  have rule1 : ∀ (Y : World) (o : Nat), Y.heap[W.heap.size]? = some (.cells #[.int .i64 k, .int .i64 n, .int .i64 cut, .int .i64 torn] 61 (0, 0)) → Y.cell? ⟨W.heap.size, o, none⟩ = (#[.int .i64 k, .int .i64 n, .int .i64 cut, .int .i64 torn] : Array Value)[o]? := fun Y o hh => cell_in hh o
  have rule2 : ∀ (Y : World) (o : Nat), Y.heap[r]? = some (.cells (runC b j ex inp true) 32 (0, 0)) → Y.cell? ⟨r, o, none⟩ = (runC b j ex inp true)[o]? := fun Y o hh => cell_in hh o
  have KA := hide (drew_block (ablk (o2 := .cells #[.bool false, .int .i64 s1, .int .i64 s2, .int .i64 s3, .int .i64 s4, .int .i64 s5, .int .i64 s6] 52) (unhide HR1).run))
  have KA2 := hide (ablk (o2 := .cells #[.bool false, .int .i64 s1, .int .i64 s2, .int .i64 s3, .int .i64 s4, .int .i64 s5, .int .i64 s6] 52) (unhide HR1).run)
  have KC := hide (ablk (o2 := .cells #[.bool false, .int .i64 s1, .int .i64 s2, .int .i64 s3, .int .i64 s4, .int .i64 s5, .int .i64 s6] 52) (unhide KB1))
  have KGx := hide (ablk (o2 := .cells #[.bool false, .int .i64 s1, .int .i64 s2, .int .i64 s3, .int .i64 s4, .int .i64 s5, .int .i64 s6] 52) (unhide KG1))
  have KSx := hide (last_block w1 (.cells #[.bool false, .int .i64 s1, .int .i64 s2, .int .i64 s3, .int .i64 s4, .int .i64 s5, .int .i64 s6] 52) rfl)
  have HRx := hide ((unhide HR1).kept ((Below.refl _ _).alloc (Nat.le_refl _) (.cells #[.bool false, .int .i64 s1, .int .i64 s2, .int .i64 s3, .int .i64 s4, .int .i64 s5, .int .i64 s6] 52)))
  have HOx := hide ((unhide HO1).trans (Only.of ((Below.refl _ _).alloc (Nat.le_refl _) (.cells #[.bool false, .int .i64 s1, .int .i64 s2, .int .i64 s3, .int .i64 s4, .int .i64 s5, .int .i64 s6] 52))))
  have hszx : (w1.alloc (.cells #[.bool false, .int .i64 s1, .int .i64 s2, .int .i64 s3, .int .i64 s4, .int .i64 s5, .int .i64 s6] 52)).heap.size = w1.heap.size + 1 := by simp
  refine cut_code (fun a Z => ∃ (q : Nat) (x12 x13 x14 x15 x16 x17 : Value), a = ⟨#[.pointer (some ⟨r, 0, none⟩), .pointer (some ⟨g, 0, none⟩), .agg #[.int .i64 k, .int .i64 n, .int .i64 cut, .int .i64 torn], undef, undef, .pointer (some ⟨W.heap.size, 0, none⟩), .pointer (some ⟨w1.heap.size, 0, none⟩), .pointer (some ⟨q, 0, none⟩), undef, undef, .pointer (some ⟨r, 0, none⟩), .agg #[.bool false, .int .i64 s1, .int .i64 s2, .int .i64 s3, .int .i64 s4, .int .i64 s5, .int .i64 s6], x12, x13, x14, x15, x16, x17, undef, undef, undef, undef, undef, undef, undef, undef, undef, undef, undef, undef, undef, undef, undef, undef, undef, undef, undef, undef, undef, undef, undef, undef, undef, undef, undef, undef, undef, undef, undef, undef, undef, undef, undef, undef, undef, undef, undef, undef, undef, undef, undef, undef, undef, undef, undef, undef, undef, undef, undef, undef, undef, undef, undef, undef, undef, undef, undef, undef, undef, undef, undef, undef, undef, undef, undef, undef, undef, undef, undef, undef, undef, undef, undef, undef, undef, undef, undef, undef, undef, undef, undef, undef, undef, undef, undef, undef, undef, undef, undef, undef], []⟩ ∧ Z.heap[q]? = some (.cells #[.int .i64 (K : Nat), .int .i64 (N : Nat), .string T, .int .i64 cut, .int .i64 torn] 74 (0, 0)) ∧ Z.heap[W.heap.size]? = some (.cells #[.int .i64 k, .int .i64 n, .int .i64 cut, .int .i64 torn] 61 (0, 0)) ∧ Z.heap[w1.heap.size]? = some (.cells #[.bool false, .int .i64 s1, .int .i64 s2, .int .i64 s3, .int .i64 s4, .int .i64 s5, .int .i64 s6] 52 (0, 0)) ∧ RunRel Z r b j ex inp d ∧ Z.heap[g]? = some (.cells #[.bool kp, .bool may] 58 (0, 0)) ∧ Only (Both b g) W Z ∧ w1.heap.size < q) ?_ ?_
  · clear KA
    have HSX := hide hszx
    have m1 : r < (w1.alloc (.cells #[.bool false, .int .i64 s1, .int .i64 s2, .int .i64 s3, .int .i64 s4, .int .i64 s5, .int .i64 s6] 52)).heap.size := by omega
    have m2 : W.heap.size < (w1.alloc (.cells #[.bool false, .int .i64 s1, .int .i64 s2, .int .i64 s3, .int .i64 s4, .int .i64 s5, .int .i64 s6] 52)).heap.size := by omega
    have m3 : g < (w1.alloc (.cells #[.bool false, .int .i64 s1, .int .i64 s2, .int .i64 s3, .int .i64 s4, .int .i64 s5, .int .i64 s6] 52)).heap.size := by omega
    have m4 : w1.heap.size < (w1.alloc (.cells #[.bool false, .int .i64 s1, .int .i64 s2, .int .i64 s3, .int .i64 s4, .int .i64 s5, .int .i64 s6] 52)).heap.size := by omega
    have m5 : b < (w1.alloc (.cells #[.bool false, .int .i64 s1, .int .i64 s2, .int .i64 s3, .int .i64 s4, .int .i64 s5, .int .i64 s6] 52)).heap.size := by omega
    clear hszx
    generalize (w1.alloc (.cells #[.bool false, .int .i64 s1, .int .i64 s2, .int .i64 s3, .int .i64 s4, .int .i64 s5, .int .i64 s6] 52)) = Y1 at *
    go_region_held3 (fun Y => Y.heap[r]? = some (.cells (runC b j ex inp true) 32 (0, 0)) ∧ Y.heap[W.heap.size]? = some (.cells #[.int .i64 k, .int .i64 n, .int .i64 cut, .int .i64 torn] 61 (0, 0))) (refine ⟨?_, ?_⟩ <;> (repeat (first | with_reducible exact hC1 | with_reducible exact hC2 | with_reducible exact unhide KA2 | with_reducible exact unhide KC | with_reducible refine ablk ?_ | with_reducible refine drew_block ?_ | (with_reducible refine sblk ?_ ?_; (focus omega))))) ((go_at_call 44; with_reducible refine (unhide HEV _).mono ?_; rintro y wN ⟨rfl, hbN⟩; have hsN := hbN.size; have hC1 : wN.heap[r]? = some (.cells (runC b j ex inp true) 32 (0, 0)) := kept_block hbN (by repeat (first | with_reducible exact unhide KA2 | with_reducible refine ablk ?_ | with_reducible refine drew_block ?_)); have hC2 : wN.heap[W.heap.size]? = some (.cells #[.int .i64 k, .int .i64 n, .int .i64 cut, .int .i64 torn] 61 (0, 0)) := kept_block hbN (by repeat (first | with_reducible exact unhide KC | with_reducible refine ablk ?_ | with_reducible refine drew_block ?_)); (first | (have hK : wN.heap[Y1.heap.size]? = some (.cells #[.int .i64 0, .int .i64 0, .string ⟨#[]⟩, .int .i64 0, .int .i64 0] 74 (0, 0)) := kept_block hbN (drew_block (last_block _ _ rfl)); have hNx := (block_facts hK).1; have hNf := (block_facts hK).2; have hNl := (Array.getElem?_eq_some_iff.1 hK).1) | (have hK : wN.heap[Y1.heap.size]? = some (.cells #[.int .i64 0, .int .i64 0, .string ⟨#[]⟩, .int .i64 0, .int .i64 0] 74 (0, 0)) := kept_block hbN (last_block Y1.drew _ rfl); have hNx := (block_facts hK).1; have hNf := (block_facts hK).2; have hNl := (Array.getElem?_eq_some_iff.1 hK).1) | (have hK : wN.heap[Y1.heap.size]? = some (.cells #[.int .i64 0, .int .i64 0, .string ⟨#[]⟩, .int .i64 0, .int .i64 0] 74 (0, 0)) := kept_block hbN (last_block Y1 _ rfl); have hNx := (block_facts hK).1; have hNf := (block_facts hK).2; have hNl := (Array.getElem?_eq_some_iff.1 hK).1) | skip)))
    all_goals
      have HbN : Hid (Below Y1.heap.size Y1 wN) := (by first | exact (Below.refl Y1.heap.size Y1).drew.trans hbN | exact ((Below.refl Y1.heap.size Y1).alloc (Nat.le_refl _) _).drew.trans (hbN.mono (by show Y1.heap.size ≤ (World.alloc _ _).heap.size; simp)))
      have hsN1 := (unhide HbN).size
      refine ⟨rfl, _, _, _, _, _, _, _, rfl, ?_, ?_, ?_, ?_, ?_, ?_, ?_⟩
      · first | with_reducible exact last_block _ _ rfl | with_reducible exact setRow5 hK | with_reducible exact drew_block (last_block _ _ rfl) | with_reducible exact drew_block (setRow5 hK)
      · refine kept_block (X := Y1) ?_ (unhide KC)
        repeat (first | with_reducible exact unhide HbN | with_reducible refine bdrew ?_ | (with_reducible refine bset ?_ ?_; (focus (first | omega | (simp; done) | (simp; omega)))) | (with_reducible refine balloc ?_ ?_; (focus (first | omega | (simp; done) | (simp; omega)))))
      · refine kept_block (X := Y1) ?_ (unhide KSx)
        repeat (first | with_reducible exact unhide HbN | with_reducible refine bdrew ?_ | (with_reducible refine bset ?_ ?_; (focus (first | omega | (simp; done) | (simp; omega)))) | (with_reducible refine balloc ?_ ?_; (focus (first | omega | (simp; done) | (simp; omega)))))
      · refine (unhide HRx).kept ?_
        repeat (first | with_reducible exact unhide HbN | with_reducible refine bdrew ?_ | (with_reducible refine bset ?_ ?_; (focus (first | omega | (simp; done) | (simp; omega)))) | (with_reducible refine balloc ?_ ?_; (focus (first | omega | (simp; done) | (simp; omega)))))
      · refine kept_block (X := Y1) ?_ (unhide KGx)
        repeat (first | with_reducible exact unhide HbN | with_reducible refine bdrew ?_ | (with_reducible refine bset ?_ ?_; (focus (first | omega | (simp; done) | (simp; omega)))) | (with_reducible refine balloc ?_ ?_; (focus (first | omega | (simp; done) | (simp; omega)))))
      · refine (unhide HOx).trans (Only.of ?_)
        repeat (first | with_reducible exact unhide HbN | with_reducible refine bdrew ?_ | (with_reducible refine bset ?_ ?_; (focus (first | omega | (simp; done) | (simp; omega)))) | (with_reducible refine balloc ?_ ?_; (focus (first | omega | (simp; done) | (simp; omega)))))
      · omega
  · rintro _ Z ⟨q, x12, x13, x14, x15, x16, x17, rfl, kE, kB, kS, hrZ, kG, hoZ, hq⟩
    clear HEV HR1 KG1 KB1 HO1 KA KA2 KC KGx KSx HRx HOx hszx rule1 rule2
    have hk2 := unhide H_hk2
    subst hk2
    have KE := hide kE
    have KB := hide kB
    have KS := hide kS
    have KG := hide kG
    have HOZ := hide hoZ
    have lq := (Array.getElem?_eq_some_iff.1 kE).1
    have lB := (Array.getElem?_eq_some_iff.1 kB).1
    have lS := (Array.getElem?_eq_some_iff.1 kS).1
    have lG := (Array.getElem?_eq_some_iff.1 kG).1
    obtain ⟨hxE, hfE⟩ := block_facts kE
    have HRZ := hide hrZ
    clear kE kB kS kG hoZ hrZ
    go_wp2_with fail
    refine (unhide HDO _ (unhide HRZ)).mono ?_
    rintro y w3 ⟨rfl, hr3, ho3⟩
    have KE3 := hide ((ho3.block q lq (by omega)).trans (unhide KE))
    have KB3 := hide ((ho3.block W.heap.size lB (by omega)).trans (unhide KB))
    have KS3 := hide ((ho3.block w1.heap.size lS (by omega)).trans (unhide KS))
    have KG3 := hide ((ho3.block g lG hgb).trans (unhide KG))
    have HO3 := hide ((unhide HOZ).trans (only_both ho3))
    have HR3 := hide hr3
    have hs3 := ho3.size
    clear hr3 ho3 hxE hfE KE KB KS KG HOZ HRZ HDO
    go_wp2_with fail
    refine (unhide HS2 _ ((unhide HR3).kept ((Below.refl _ _).alloc (Nat.le_refl _) _))).mono ?_
    rintro e w4 ⟨rfl, hb4⟩
    obtain ⟨kR4, hl4, hbW4⟩ := blk1 hb4
    have kE4 := kept_block hbW4 (unhide KE3)
    have kB4 := kept_block hbW4 (unhide KB3)
    have kS4 := kept_block hbW4 (unhide KS3)
    have kG4 := kept_block hbW4 (unhide KG3)
    have HR4 := hide ((unhide HR3).kept hbW4)
    have HO4 := hide ((unhide HO3).trans (Only.of hbW4))
    obtain ⟨hxr, hfr⟩ := block_facts (unhide HR4).run
    obtain ⟨hxE, hfE⟩ := block_facts kE4
    obtain ⟨hxB, hfB⟩ := block_facts kB4
    obtain ⟨hxS, hfS⟩ := block_facts kS4
    obtain ⟨hxR, hfR⟩ := block_facts kR4
    obtain ⟨hxg, hfg⟩ := block_facts kG4
    have KG4 := hide kG4
    have l1 := (Array.getElem?_eq_some_iff.1 kE4).1
    have l2 := (Array.getElem?_eq_some_iff.1 kB4).1
    have l3 := (Array.getElem?_eq_some_iff.1 kS4).1
    have l4 := (Array.getElem?_eq_some_iff.1 kG4).1
    have l5 := (unhide HR4).lt.1
    have n1 : ¬ q = w4.heap.size := by omega
    have n2 : ¬ W.heap.size = w4.heap.size := by omega
    have n3 : ¬ w1.heap.size = w4.heap.size := by omega
    have n4 : ¬ g = w4.heap.size := by omega
    have n5 : ¬ r = w4.heap.size := by omega
    have n6 : ¬ w3.heap.size = w4.heap.size := by omega
    have n7 : ¬ w3.heap.size = g := by omega
    have n8 : ¬ g = w3.heap.size := by omega
    clear hb4 kR4 hbW4 kE4 kB4 kS4 kG4 HR3 KE3 KB3 KS3 KG3 HO3 HS2 lq lB lS lG
    go_wp2_with fail
    refine (must_true _ _).mono ?_
    rintro e _ ⟨rfl, rfl⟩
    go_wp2_with fail
    refine (unhide HSD _ ((unhide HR4).kept ((Below.refl _ _).alloc (Nat.le_refl _) _)) (ablk (unhide KG4))).mono ?_
    rintro e w9 ⟨rfl, kp9, may9, hr9, hk9, ho9, h1, h2⟩
    have H9 := hide (And.intro hr9 (And.intro hk9 (And.intro h1 h2)))
    have HO9 := hide (((unhide HO4).trans (Only.of ((Below.refl _ _).alloc (Nat.le_refl _) _))).trans ho9)
    clear hr9 hk9 ho9 h1 h2
    go_wp2
    exact bodyPost_end (v := .tuple #[]) (by simp [results, Tryz.results29, go_sem]) rfl ⟨rfl, kp9, may9, (unhide H9).1, (unhide H9).2.1, unhide HO9, (unhide H9).2.2.1, (unhide H9).2.2.2⟩
set_option maxRecDepth 10000 in
set_option maxHeartbeats 2000000 in
theorem blown_else (h : RunRel W r b j ex inp d) (k n cut torn : Int) (kp may : Bool) (d' : M.Dev) (K N : Nat) (T : ByteArray) (er ve : Nat) (tx : ByteArray) (ask : Int) (s1 s2 s3 s4 s5 s6 t1 t2 t3 t4 t5 t6 : Int)
    (hev : ∀ X : World, Calls Tryz.prog 44 #[jobV j ex, .agg #[.int .i64 k, .int .i64 n, .int .i64 cut, .int .i64 torn]] X fun e w' => e = .returned (evV K N T cut torn) ∧ Below X.heap.size X w') (hT : T.size ≤ maxLen)
    (hdo : M.doM d ⟨K, N, T, cut, torn⟩ = (d', ⟨er, ve, tx, ask⟩)) (hst : statOf d = .agg #[.bool true, .int .i64 s1, .int .i64 s2, .int .i64 s3, .int .i64 s4, .int .i64 s5, .int .i64 s6]) (hst' : statOf d' = .agg #[.bool true, .int .i64 t1, .int .i64 t2, .int .i64 t3, .int .i64 t4, .int .i64 t5, .int .i64 t6])
    (hg : W.heap[g]? = some (.cells #[.bool kp, .bool may] 58 (0, 0))) (hgb : ¬ g = b) (hk1 : ¬ K = 1) (hk2 : ¬ K = 2) (hk7 : ¬ K = 7) (he : ¬ er = 10)
    (hsd : ∀ X : World, RunRel X r b j ex inp d' → X.heap[g]? = some (.cells #[.bool kp, .bool may] 58 (0, 0)) → Calls Tryz.prog 45 #[.pointer (some ⟨r, 0, none⟩), .pointer (some ⟨g, 0, none⟩)] X fun e w' => SoundPost X r b g j ex inp d' e w') :
    Calls Tryz.prog 29 #[.pointer (some ⟨r, 0, none⟩), .pointer (some ⟨g, 0, none⟩), .agg #[.int .i64 k, .int .i64 n, .int .i64 cut, .int .i64 torn]] W fun e w' => SoundPost W r b g j ex inp d' e w' := by
  have HR := hide h
  have HG := hide hg
  have HEV := hide hev
  have HDO : Hid (∀ X : World, RunRel X r b j ex inp d → Calls Tryz.prog 34 #[.pointer (some ⟨r, 0, none⟩), evV K N T cut torn] X fun y w' => y = .returned (.agg #[.int .i64 (er : Nat), .int .i64 (ve : Nat), .string tx, .int .i64 ask]) ∧ RunRel w' r b j ex inp d' ∧ Only (· = b) X w') := by
    intro X hX
    refine (runDo_any hX ⟨K, N, T, cut, torn⟩ hT).mono fun y w' hp => ?_
    have hrel := hX.does hp
    obtain ⟨hy, _, ho⟩ := hp
    rw [hdo] at hrel hy
    exact ⟨hy, hrel, ho⟩
  have HS1 : Hid (∀ X : World, RunRel X r b j ex inp d → Calls Tryz.prog 28 #[.pointer (some ⟨r, 0, none⟩)] X fun e w' => e = .returned (.agg #[.bool true, .int .i64 s1, .int .i64 s2, .int .i64 s3, .int .i64 s4, .int .i64 s5, .int .i64 s6]) ∧ Below X.heap.size X w') := by
    intro X hX
    have := runStatus_any hX
    rwa [hst] at this
  have HS2 : Hid (∀ X : World, RunRel X r b j ex inp d' → Calls Tryz.prog 28 #[.pointer (some ⟨r, 0, none⟩)] X fun e w' => e = .returned (.agg #[.bool true, .int .i64 t1, .int .i64 t2, .int .i64 t3, .int .i64 t4, .int .i64 t5, .int .i64 t6]) ∧ Below X.heap.size X w') := by
    intro X hX
    have := runStatus_any hX
    rwa [hst'] at this
  have HSD := hide hsd
  have hk1' : ¬ (K : Int) = 1 := by omega
  have hk2' : ¬ (K : Int) = 2 := by omega
  have hk7' : ¬ (K : Int) = 7 := by omega
  have he' : ¬ (er : Int) = 10 := by omega
  have hgl := (Array.getElem?_eq_some_iff.1 hg).1
  have hrl := h.lt.1
  have hbl := h.lt.2
  clear h hg hev hdo hst hst' hT hsd
  go_enter Tryz.func29, Tryz.ntmps29
  go_wp2_with fail
  refine (unhide HS1 _ ((unhide HR).kept ((Below.refl _ _).alloc (Nat.le_refl _) _))).mono ?_
  rintro e w1 ⟨rfl, hb1⟩
  obtain ⟨kB1, hs1, hbW1⟩ := blk1 hb1
  have HR1 := hide ((unhide HR).kept hbW1)
  have KG1 := hide (kept_block hbW1 (unhide HG))
  have KB1 := hide kB1
  have HO1 := hide (Only.of (p := Both b g) hbW1)
  have hsz1 := hbW1.size
  clear hb1 kB1 hbW1 HS1 HR HG
  go_wp2_with fail
  have rule1 : ∀ (Y : World) (o : Nat), Y.heap[W.heap.size]? = some (.cells #[.int .i64 k, .int .i64 n, .int .i64 cut, .int .i64 torn] 61 (0, 0)) → Y.cell? ⟨W.heap.size, o, none⟩ = (#[.int .i64 k, .int .i64 n, .int .i64 cut, .int .i64 torn] : Array Value)[o]? := fun Y o hh => cell_in hh o
  have rule2 : ∀ (Y : World) (o : Nat), Y.heap[r]? = some (.cells (runC b j ex inp true) 32 (0, 0)) → Y.cell? ⟨r, o, none⟩ = (runC b j ex inp true)[o]? := fun Y o hh => cell_in hh o
  have KA := hide (drew_block (ablk (o2 := .cells #[.bool true, .int .i64 s1, .int .i64 s2, .int .i64 s3, .int .i64 s4, .int .i64 s5, .int .i64 s6] 52) (unhide HR1).run))
  have KA2 := hide (ablk (o2 := .cells #[.bool true, .int .i64 s1, .int .i64 s2, .int .i64 s3, .int .i64 s4, .int .i64 s5, .int .i64 s6] 52) (unhide HR1).run)
  have KC := hide (ablk (o2 := .cells #[.bool true, .int .i64 s1, .int .i64 s2, .int .i64 s3, .int .i64 s4, .int .i64 s5, .int .i64 s6] 52) (unhide KB1))
  have KGx := hide (ablk (o2 := .cells #[.bool true, .int .i64 s1, .int .i64 s2, .int .i64 s3, .int .i64 s4, .int .i64 s5, .int .i64 s6] 52) (unhide KG1))
  have KSx := hide (last_block w1 (.cells #[.bool true, .int .i64 s1, .int .i64 s2, .int .i64 s3, .int .i64 s4, .int .i64 s5, .int .i64 s6] 52) rfl)
  have HRx := hide ((unhide HR1).kept ((Below.refl _ _).alloc (Nat.le_refl _) (.cells #[.bool true, .int .i64 s1, .int .i64 s2, .int .i64 s3, .int .i64 s4, .int .i64 s5, .int .i64 s6] 52)))
  have HOx := hide ((unhide HO1).trans (Only.of ((Below.refl _ _).alloc (Nat.le_refl _) (.cells #[.bool true, .int .i64 s1, .int .i64 s2, .int .i64 s3, .int .i64 s4, .int .i64 s5, .int .i64 s6] 52))))
  have hszx : (w1.alloc (.cells #[.bool true, .int .i64 s1, .int .i64 s2, .int .i64 s3, .int .i64 s4, .int .i64 s5, .int .i64 s6] 52)).heap.size = w1.heap.size + 1 := by simp
  refine cut_code (fun a Z => ∃ (q : Nat) (x12 x13 x14 x15 x16 x17 : Value), a = ⟨#[.pointer (some ⟨r, 0, none⟩), .pointer (some ⟨g, 0, none⟩), .agg #[.int .i64 k, .int .i64 n, .int .i64 cut, .int .i64 torn], undef, undef, .pointer (some ⟨W.heap.size, 0, none⟩), .pointer (some ⟨w1.heap.size, 0, none⟩), .pointer (some ⟨q, 0, none⟩), undef, undef, .pointer (some ⟨r, 0, none⟩), .agg #[.bool true, .int .i64 s1, .int .i64 s2, .int .i64 s3, .int .i64 s4, .int .i64 s5, .int .i64 s6], x12, x13, x14, x15, x16, x17, undef, undef, undef, undef, undef, undef, undef, undef, undef, undef, undef, undef, undef, undef, undef, undef, undef, undef, undef, undef, undef, undef, undef, undef, undef, undef, undef, undef, undef, undef, undef, undef, undef, undef, undef, undef, undef, undef, undef, undef, undef, undef, undef, undef, undef, undef, undef, undef, undef, undef, undef, undef, undef, undef, undef, undef, undef, undef, undef, undef, undef, undef, undef, undef, undef, undef, undef, undef, undef, undef, undef, undef, undef, undef, undef, undef, undef, undef, undef, undef, undef, undef, undef, undef, undef, undef, undef, undef, undef, undef, undef, undef], []⟩ ∧ Z.heap[q]? = some (.cells #[.int .i64 (K : Nat), .int .i64 (N : Nat), .string T, .int .i64 cut, .int .i64 torn] 74 (0, 0)) ∧ Z.heap[W.heap.size]? = some (.cells #[.int .i64 k, .int .i64 n, .int .i64 cut, .int .i64 torn] 61 (0, 0)) ∧ Z.heap[w1.heap.size]? = some (.cells #[.bool true, .int .i64 s1, .int .i64 s2, .int .i64 s3, .int .i64 s4, .int .i64 s5, .int .i64 s6] 52 (0, 0)) ∧ RunRel Z r b j ex inp d ∧ Z.heap[g]? = some (.cells #[.bool kp, .bool may] 58 (0, 0)) ∧ Only (Both b g) W Z ∧ w1.heap.size < q) ?_ ?_
  · clear KA
    have HSX := hide hszx
    have m1 : r < (w1.alloc (.cells #[.bool true, .int .i64 s1, .int .i64 s2, .int .i64 s3, .int .i64 s4, .int .i64 s5, .int .i64 s6] 52)).heap.size := by omega
    have m2 : W.heap.size < (w1.alloc (.cells #[.bool true, .int .i64 s1, .int .i64 s2, .int .i64 s3, .int .i64 s4, .int .i64 s5, .int .i64 s6] 52)).heap.size := by omega
    have m3 : g < (w1.alloc (.cells #[.bool true, .int .i64 s1, .int .i64 s2, .int .i64 s3, .int .i64 s4, .int .i64 s5, .int .i64 s6] 52)).heap.size := by omega
    have m4 : w1.heap.size < (w1.alloc (.cells #[.bool true, .int .i64 s1, .int .i64 s2, .int .i64 s3, .int .i64 s4, .int .i64 s5, .int .i64 s6] 52)).heap.size := by omega
    have m5 : b < (w1.alloc (.cells #[.bool true, .int .i64 s1, .int .i64 s2, .int .i64 s3, .int .i64 s4, .int .i64 s5, .int .i64 s6] 52)).heap.size := by omega
    clear hszx
    generalize (w1.alloc (.cells #[.bool true, .int .i64 s1, .int .i64 s2, .int .i64 s3, .int .i64 s4, .int .i64 s5, .int .i64 s6] 52)) = Y1 at *
    go_region_held3 (fun Y => Y.heap[r]? = some (.cells (runC b j ex inp true) 32 (0, 0)) ∧ Y.heap[W.heap.size]? = some (.cells #[.int .i64 k, .int .i64 n, .int .i64 cut, .int .i64 torn] 61 (0, 0))) (refine ⟨?_, ?_⟩ <;> (repeat (first | with_reducible exact hC1 | with_reducible exact hC2 | with_reducible exact unhide KA2 | with_reducible exact unhide KC | with_reducible refine ablk ?_ | with_reducible refine drew_block ?_ | (with_reducible refine sblk ?_ ?_; (focus omega))))) ((go_at_call 44; with_reducible refine (unhide HEV _).mono ?_; rintro y wN ⟨rfl, hbN⟩; have hsN := hbN.size; have hC1 : wN.heap[r]? = some (.cells (runC b j ex inp true) 32 (0, 0)) := kept_block hbN (by repeat (first | with_reducible exact unhide KA2 | with_reducible refine ablk ?_ | with_reducible refine drew_block ?_)); have hC2 : wN.heap[W.heap.size]? = some (.cells #[.int .i64 k, .int .i64 n, .int .i64 cut, .int .i64 torn] 61 (0, 0)) := kept_block hbN (by repeat (first | with_reducible exact unhide KC | with_reducible refine ablk ?_ | with_reducible refine drew_block ?_)); (first | (have hK : wN.heap[Y1.heap.size]? = some (.cells #[.int .i64 0, .int .i64 0, .string ⟨#[]⟩, .int .i64 0, .int .i64 0] 74 (0, 0)) := kept_block hbN (drew_block (last_block _ _ rfl)); have hNx := (block_facts hK).1; have hNf := (block_facts hK).2; have hNl := (Array.getElem?_eq_some_iff.1 hK).1) | (have hK : wN.heap[Y1.heap.size]? = some (.cells #[.int .i64 0, .int .i64 0, .string ⟨#[]⟩, .int .i64 0, .int .i64 0] 74 (0, 0)) := kept_block hbN (last_block Y1.drew _ rfl); have hNx := (block_facts hK).1; have hNf := (block_facts hK).2; have hNl := (Array.getElem?_eq_some_iff.1 hK).1) | (have hK : wN.heap[Y1.heap.size]? = some (.cells #[.int .i64 0, .int .i64 0, .string ⟨#[]⟩, .int .i64 0, .int .i64 0] 74 (0, 0)) := kept_block hbN (last_block Y1 _ rfl); have hNx := (block_facts hK).1; have hNf := (block_facts hK).2; have hNl := (Array.getElem?_eq_some_iff.1 hK).1) | skip)))
    all_goals
      have HbN : Hid (Below Y1.heap.size Y1 wN) := (by first | exact (Below.refl Y1.heap.size Y1).drew.trans hbN | exact ((Below.refl Y1.heap.size Y1).alloc (Nat.le_refl _) _).drew.trans (hbN.mono (by show Y1.heap.size ≤ (World.alloc _ _).heap.size; simp)))
      have hsN1 := (unhide HbN).size
      refine ⟨rfl, _, _, _, _, _, _, _, rfl, ?_, ?_, ?_, ?_, ?_, ?_, ?_⟩
      · first | with_reducible exact last_block _ _ rfl | with_reducible exact setRow5 hK | with_reducible exact drew_block (last_block _ _ rfl) | with_reducible exact drew_block (setRow5 hK)
      · refine kept_block (X := Y1) ?_ (unhide KC)
        repeat (first | with_reducible exact unhide HbN | with_reducible refine bdrew ?_ | (with_reducible refine bset ?_ ?_; (focus (first | omega | (simp; done) | (simp; omega)))) | (with_reducible refine balloc ?_ ?_; (focus (first | omega | (simp; done) | (simp; omega)))))
      · refine kept_block (X := Y1) ?_ (unhide KSx)
        repeat (first | with_reducible exact unhide HbN | with_reducible refine bdrew ?_ | (with_reducible refine bset ?_ ?_; (focus (first | omega | (simp; done) | (simp; omega)))) | (with_reducible refine balloc ?_ ?_; (focus (first | omega | (simp; done) | (simp; omega)))))
      · refine (unhide HRx).kept ?_
        repeat (first | with_reducible exact unhide HbN | with_reducible refine bdrew ?_ | (with_reducible refine bset ?_ ?_; (focus (first | omega | (simp; done) | (simp; omega)))) | (with_reducible refine balloc ?_ ?_; (focus (first | omega | (simp; done) | (simp; omega)))))
      · refine kept_block (X := Y1) ?_ (unhide KGx)
        repeat (first | with_reducible exact unhide HbN | with_reducible refine bdrew ?_ | (with_reducible refine bset ?_ ?_; (focus (first | omega | (simp; done) | (simp; omega)))) | (with_reducible refine balloc ?_ ?_; (focus (first | omega | (simp; done) | (simp; omega)))))
      · refine (unhide HOx).trans (Only.of ?_)
        repeat (first | with_reducible exact unhide HbN | with_reducible refine bdrew ?_ | (with_reducible refine bset ?_ ?_; (focus (first | omega | (simp; done) | (simp; omega)))) | (with_reducible refine balloc ?_ ?_; (focus (first | omega | (simp; done) | (simp; omega)))))
      · omega
  · rintro _ Z ⟨q, x12, x13, x14, x15, x16, x17, rfl, kE, kB, kS, hrZ, kG, hoZ, hq⟩
    clear HEV HR1 KG1 KB1 HO1 KA KA2 KC KGx KSx HRx HOx hszx rule1 rule2
    have KE := hide kE
    have KB := hide kB
    have KS := hide kS
    have KG := hide kG
    have HOZ := hide hoZ
    have lq := (Array.getElem?_eq_some_iff.1 kE).1
    have lB := (Array.getElem?_eq_some_iff.1 kB).1
    have lS := (Array.getElem?_eq_some_iff.1 kS).1
    have lG := (Array.getElem?_eq_some_iff.1 kG).1
    obtain ⟨hxE, hfE⟩ := block_facts kE
    have HRZ := hide hrZ
    clear kE kB kS kG hoZ hrZ
    go_wp2_with fail
    refine (unhide HDO _ (unhide HRZ)).mono ?_
    rintro y w3 ⟨rfl, hr3, ho3⟩
    have KE3 := hide ((ho3.block q lq (by omega)).trans (unhide KE))
    have KB3 := hide ((ho3.block W.heap.size lB (by omega)).trans (unhide KB))
    have KS3 := hide ((ho3.block w1.heap.size lS (by omega)).trans (unhide KS))
    have KG3 := hide ((ho3.block g lG hgb).trans (unhide KG))
    have HO3 := hide ((unhide HOZ).trans (only_both ho3))
    have HR3 := hide hr3
    have hs3 := ho3.size
    clear hr3 ho3 hxE hfE KE KB KS KG HOZ HRZ HDO
    go_wp2_with fail
    refine (unhide HS2 _ ((unhide HR3).kept ((Below.refl _ _).alloc (Nat.le_refl _) _))).mono ?_
    rintro e w4 ⟨rfl, hb4⟩
    obtain ⟨kR4, hl4, hbW4⟩ := blk1 hb4
    have kE4 := kept_block hbW4 (unhide KE3)
    have kB4 := kept_block hbW4 (unhide KB3)
    have kS4 := kept_block hbW4 (unhide KS3)
    have kG4 := kept_block hbW4 (unhide KG3)
    have HR4 := hide ((unhide HR3).kept hbW4)
    have HO4 := hide ((unhide HO3).trans (Only.of hbW4))
    obtain ⟨hxr, hfr⟩ := block_facts (unhide HR4).run
    obtain ⟨hxE, hfE⟩ := block_facts kE4
    obtain ⟨hxB, hfB⟩ := block_facts kB4
    obtain ⟨hxS, hfS⟩ := block_facts kS4
    obtain ⟨hxR, hfR⟩ := block_facts kR4
    obtain ⟨hxg, hfg⟩ := block_facts kG4
    have KG4 := hide kG4
    have l1 := (Array.getElem?_eq_some_iff.1 kE4).1
    have l2 := (Array.getElem?_eq_some_iff.1 kB4).1
    have l3 := (Array.getElem?_eq_some_iff.1 kS4).1
    have l4 := (Array.getElem?_eq_some_iff.1 kG4).1
    have l5 := (unhide HR4).lt.1
    have n1 : ¬ q = w4.heap.size := by omega
    have n2 : ¬ W.heap.size = w4.heap.size := by omega
    have n3 : ¬ w1.heap.size = w4.heap.size := by omega
    have n4 : ¬ g = w4.heap.size := by omega
    have n5 : ¬ r = w4.heap.size := by omega
    have n6 : ¬ w3.heap.size = w4.heap.size := by omega
    have n7 : ¬ w3.heap.size = g := by omega
    have n8 : ¬ g = w3.heap.size := by omega
    clear hb4 kR4 hbW4 kE4 kB4 kS4 kG4 HR3 KE3 KB3 KS3 KG3 HO3 HS2 lq lB lS lG
    go_wp2_with fail
    refine (must_true _ _).mono ?_
    rintro e _ ⟨rfl, rfl⟩
    go_wp2_with fail
    refine (unhide HSD _ ((unhide HR4).kept ((Below.refl _ _).alloc (Nat.le_refl _) _)) (ablk (unhide KG4))).mono ?_
    rintro e w9 ⟨rfl, kp9, may9, hr9, hk9, ho9, h1, h2⟩
    have H9 := hide (And.intro hr9 (And.intro hk9 (And.intro h1 h2)))
    have HO9 := hide (((unhide HO4).trans (Only.of ((Below.refl _ _).alloc (Nat.le_refl _) _))).trans ho9)
    clear hr9 hk9 ho9 h1 h2
    go_wp2
    exact bodyPost_end (v := .tuple #[]) (by simp [results, Tryz.results29, go_sem]) rfl ⟨rfl, kp9, may9, (unhide H9).1, (unhide H9).2.1, unhide HO9, (unhide H9).2.2.1, (unhide H9).2.2.2⟩
set_option maxRecDepth 10000 in
set_option maxHeartbeats 2000000 in
theorem blown_idle (h : RunRel W r b j ex inp d) (k n cut torn : Int) (kp may : Bool) (d' : M.Dev) (K N : Nat) (T : ByteArray) (er ve : Nat) (tx : ByteArray) (ask : Int) (s1 s2 s3 s4 s5 s6 t1 t2 t3 t4 t5 t6 : Int)
    (hev : ∀ X : World, Calls Tryz.prog 44 #[jobV j ex, .agg #[.int .i64 k, .int .i64 n, .int .i64 cut, .int .i64 torn]] X fun e w' => e = .returned (evV K N T cut torn) ∧ Below X.heap.size X w') (hT : T.size ≤ maxLen)
    (hdo : M.doM d ⟨K, N, T, cut, torn⟩ = (d', ⟨er, ve, tx, ask⟩)) (hst : statOf d = .agg #[.bool true, .int .i64 s1, .int .i64 s2, .int .i64 s3, .int .i64 s4, .int .i64 s5, .int .i64 s6]) (hst' : statOf d' = .agg #[.bool true, .int .i64 t1, .int .i64 t2, .int .i64 t3, .int .i64 t4, .int .i64 t5, .int .i64 t6])
    (hg : W.heap[g]? = some (.cells #[.bool kp, .bool may] 58 (0, 0))) (hgb : ¬ g = b) (hk7 : K = 7) (hs1 : ¬ s1 = 2) (he : ¬ er = 10)
    (hsd : ∀ X : World, RunRel X r b j ex inp d' → X.heap[g]? = some (.cells #[.bool kp, .bool may] 58 (0, 0)) → Calls Tryz.prog 45 #[.pointer (some ⟨r, 0, none⟩), .pointer (some ⟨g, 0, none⟩)] X fun e w' => SoundPost X r b g j ex inp d' e w') :
    Calls Tryz.prog 29 #[.pointer (some ⟨r, 0, none⟩), .pointer (some ⟨g, 0, none⟩), .agg #[.int .i64 k, .int .i64 n, .int .i64 cut, .int .i64 torn]] W fun e w' => SoundPost W r b g j ex inp d' e w' := by
  have HR := hide h
  have HG := hide hg
  have HEV := hide hev
  have HDO : Hid (∀ X : World, RunRel X r b j ex inp d → Calls Tryz.prog 34 #[.pointer (some ⟨r, 0, none⟩), evV K N T cut torn] X fun y w' => y = .returned (.agg #[.int .i64 (er : Nat), .int .i64 (ve : Nat), .string tx, .int .i64 ask]) ∧ RunRel w' r b j ex inp d' ∧ Only (· = b) X w') := by
    intro X hX
    refine (runDo_any hX ⟨K, N, T, cut, torn⟩ hT).mono fun y w' hp => ?_
    have hrel := hX.does hp
    obtain ⟨hy, _, ho⟩ := hp
    rw [hdo] at hrel hy
    exact ⟨hy, hrel, ho⟩
  have HS1 : Hid (∀ X : World, RunRel X r b j ex inp d → Calls Tryz.prog 28 #[.pointer (some ⟨r, 0, none⟩)] X fun e w' => e = .returned (.agg #[.bool true, .int .i64 s1, .int .i64 s2, .int .i64 s3, .int .i64 s4, .int .i64 s5, .int .i64 s6]) ∧ Below X.heap.size X w') := by
    intro X hX
    have := runStatus_any hX
    rwa [hst] at this
  have HS2 : Hid (∀ X : World, RunRel X r b j ex inp d' → Calls Tryz.prog 28 #[.pointer (some ⟨r, 0, none⟩)] X fun e w' => e = .returned (.agg #[.bool true, .int .i64 t1, .int .i64 t2, .int .i64 t3, .int .i64 t4, .int .i64 t5, .int .i64 t6]) ∧ Below X.heap.size X w') := by
    intro X hX
    have := runStatus_any hX
    rwa [hst'] at this
  have HSD := hide hsd
  have H_hk7 := hide hk7
  clear hk7
  have he' : ¬ (er : Int) = 10 := by omega
  have hgl := (Array.getElem?_eq_some_iff.1 hg).1
  have hrl := h.lt.1
  have hbl := h.lt.2
  clear h hg hev hdo hst hst' hT hsd
  go_enter Tryz.func29, Tryz.ntmps29
  go_wp2_with fail
  refine (unhide HS1 _ ((unhide HR).kept ((Below.refl _ _).alloc (Nat.le_refl _) _))).mono ?_
  rintro e w1 ⟨rfl, hb1⟩
  obtain ⟨kB1, hs1, hbW1⟩ := blk1 hb1
  have HR1 := hide ((unhide HR).kept hbW1)
  have KG1 := hide (kept_block hbW1 (unhide HG))
  have KB1 := hide kB1
  have HO1 := hide (Only.of (p := Both b g) hbW1)
  have hsz1 := hbW1.size
  clear hb1 kB1 hbW1 HS1 HR HG
  go_wp2_with fail
  have rule1 : ∀ (Y : World) (o : Nat), Y.heap[W.heap.size]? = some (.cells #[.int .i64 k, .int .i64 n, .int .i64 cut, .int .i64 torn] 61 (0, 0)) → Y.cell? ⟨W.heap.size, o, none⟩ = (#[.int .i64 k, .int .i64 n, .int .i64 cut, .int .i64 torn] : Array Value)[o]? := fun Y o hh => cell_in hh o
  have rule2 : ∀ (Y : World) (o : Nat), Y.heap[r]? = some (.cells (runC b j ex inp true) 32 (0, 0)) → Y.cell? ⟨r, o, none⟩ = (runC b j ex inp true)[o]? := fun Y o hh => cell_in hh o
  have KA := hide (drew_block (ablk (o2 := .cells #[.bool true, .int .i64 s1, .int .i64 s2, .int .i64 s3, .int .i64 s4, .int .i64 s5, .int .i64 s6] 52) (unhide HR1).run))
  have KA2 := hide (ablk (o2 := .cells #[.bool true, .int .i64 s1, .int .i64 s2, .int .i64 s3, .int .i64 s4, .int .i64 s5, .int .i64 s6] 52) (unhide HR1).run)
  have KC := hide (ablk (o2 := .cells #[.bool true, .int .i64 s1, .int .i64 s2, .int .i64 s3, .int .i64 s4, .int .i64 s5, .int .i64 s6] 52) (unhide KB1))
  have KGx := hide (ablk (o2 := .cells #[.bool true, .int .i64 s1, .int .i64 s2, .int .i64 s3, .int .i64 s4, .int .i64 s5, .int .i64 s6] 52) (unhide KG1))
  have KSx := hide (last_block w1 (.cells #[.bool true, .int .i64 s1, .int .i64 s2, .int .i64 s3, .int .i64 s4, .int .i64 s5, .int .i64 s6] 52) rfl)
  have HRx := hide ((unhide HR1).kept ((Below.refl _ _).alloc (Nat.le_refl _) (.cells #[.bool true, .int .i64 s1, .int .i64 s2, .int .i64 s3, .int .i64 s4, .int .i64 s5, .int .i64 s6] 52)))
  have HOx := hide ((unhide HO1).trans (Only.of ((Below.refl _ _).alloc (Nat.le_refl _) (.cells #[.bool true, .int .i64 s1, .int .i64 s2, .int .i64 s3, .int .i64 s4, .int .i64 s5, .int .i64 s6] 52))))
  have hszx : (w1.alloc (.cells #[.bool true, .int .i64 s1, .int .i64 s2, .int .i64 s3, .int .i64 s4, .int .i64 s5, .int .i64 s6] 52)).heap.size = w1.heap.size + 1 := by simp
  refine cut_code (fun a Z => ∃ (q : Nat) (x12 x13 x14 x15 x16 x17 : Value), a = ⟨#[.pointer (some ⟨r, 0, none⟩), .pointer (some ⟨g, 0, none⟩), .agg #[.int .i64 k, .int .i64 n, .int .i64 cut, .int .i64 torn], undef, undef, .pointer (some ⟨W.heap.size, 0, none⟩), .pointer (some ⟨w1.heap.size, 0, none⟩), .pointer (some ⟨q, 0, none⟩), undef, undef, .pointer (some ⟨r, 0, none⟩), .agg #[.bool true, .int .i64 s1, .int .i64 s2, .int .i64 s3, .int .i64 s4, .int .i64 s5, .int .i64 s6], x12, x13, x14, x15, x16, x17, undef, undef, undef, undef, undef, undef, undef, undef, undef, undef, undef, undef, undef, undef, undef, undef, undef, undef, undef, undef, undef, undef, undef, undef, undef, undef, undef, undef, undef, undef, undef, undef, undef, undef, undef, undef, undef, undef, undef, undef, undef, undef, undef, undef, undef, undef, undef, undef, undef, undef, undef, undef, undef, undef, undef, undef, undef, undef, undef, undef, undef, undef, undef, undef, undef, undef, undef, undef, undef, undef, undef, undef, undef, undef, undef, undef, undef, undef, undef, undef, undef, undef, undef, undef, undef, undef, undef, undef, undef, undef, undef, undef], []⟩ ∧ Z.heap[q]? = some (.cells #[.int .i64 (K : Nat), .int .i64 (N : Nat), .string T, .int .i64 cut, .int .i64 torn] 74 (0, 0)) ∧ Z.heap[W.heap.size]? = some (.cells #[.int .i64 k, .int .i64 n, .int .i64 cut, .int .i64 torn] 61 (0, 0)) ∧ Z.heap[w1.heap.size]? = some (.cells #[.bool true, .int .i64 s1, .int .i64 s2, .int .i64 s3, .int .i64 s4, .int .i64 s5, .int .i64 s6] 52 (0, 0)) ∧ RunRel Z r b j ex inp d ∧ Z.heap[g]? = some (.cells #[.bool kp, .bool may] 58 (0, 0)) ∧ Only (Both b g) W Z ∧ w1.heap.size < q) ?_ ?_
  · clear KA
    have HSX := hide hszx
    have m1 : r < (w1.alloc (.cells #[.bool true, .int .i64 s1, .int .i64 s2, .int .i64 s3, .int .i64 s4, .int .i64 s5, .int .i64 s6] 52)).heap.size := by omega
    have m2 : W.heap.size < (w1.alloc (.cells #[.bool true, .int .i64 s1, .int .i64 s2, .int .i64 s3, .int .i64 s4, .int .i64 s5, .int .i64 s6] 52)).heap.size := by omega
    have m3 : g < (w1.alloc (.cells #[.bool true, .int .i64 s1, .int .i64 s2, .int .i64 s3, .int .i64 s4, .int .i64 s5, .int .i64 s6] 52)).heap.size := by omega
    have m4 : w1.heap.size < (w1.alloc (.cells #[.bool true, .int .i64 s1, .int .i64 s2, .int .i64 s3, .int .i64 s4, .int .i64 s5, .int .i64 s6] 52)).heap.size := by omega
    have m5 : b < (w1.alloc (.cells #[.bool true, .int .i64 s1, .int .i64 s2, .int .i64 s3, .int .i64 s4, .int .i64 s5, .int .i64 s6] 52)).heap.size := by omega
    clear hszx
    generalize (w1.alloc (.cells #[.bool true, .int .i64 s1, .int .i64 s2, .int .i64 s3, .int .i64 s4, .int .i64 s5, .int .i64 s6] 52)) = Y1 at *
    go_region_held3 (fun Y => Y.heap[r]? = some (.cells (runC b j ex inp true) 32 (0, 0)) ∧ Y.heap[W.heap.size]? = some (.cells #[.int .i64 k, .int .i64 n, .int .i64 cut, .int .i64 torn] 61 (0, 0))) (refine ⟨?_, ?_⟩ <;> (repeat (first | with_reducible exact hC1 | with_reducible exact hC2 | with_reducible exact unhide KA2 | with_reducible exact unhide KC | with_reducible refine ablk ?_ | with_reducible refine drew_block ?_ | (with_reducible refine sblk ?_ ?_; (focus omega))))) ((go_at_call 44; with_reducible refine (unhide HEV _).mono ?_; rintro y wN ⟨rfl, hbN⟩; have hsN := hbN.size; have hC1 : wN.heap[r]? = some (.cells (runC b j ex inp true) 32 (0, 0)) := kept_block hbN (by repeat (first | with_reducible exact unhide KA2 | with_reducible refine ablk ?_ | with_reducible refine drew_block ?_)); have hC2 : wN.heap[W.heap.size]? = some (.cells #[.int .i64 k, .int .i64 n, .int .i64 cut, .int .i64 torn] 61 (0, 0)) := kept_block hbN (by repeat (first | with_reducible exact unhide KC | with_reducible refine ablk ?_ | with_reducible refine drew_block ?_)); (first | (have hK : wN.heap[Y1.heap.size]? = some (.cells #[.int .i64 0, .int .i64 0, .string ⟨#[]⟩, .int .i64 0, .int .i64 0] 74 (0, 0)) := kept_block hbN (drew_block (last_block _ _ rfl)); have hNx := (block_facts hK).1; have hNf := (block_facts hK).2; have hNl := (Array.getElem?_eq_some_iff.1 hK).1) | (have hK : wN.heap[Y1.heap.size]? = some (.cells #[.int .i64 0, .int .i64 0, .string ⟨#[]⟩, .int .i64 0, .int .i64 0] 74 (0, 0)) := kept_block hbN (last_block Y1.drew _ rfl); have hNx := (block_facts hK).1; have hNf := (block_facts hK).2; have hNl := (Array.getElem?_eq_some_iff.1 hK).1) | (have hK : wN.heap[Y1.heap.size]? = some (.cells #[.int .i64 0, .int .i64 0, .string ⟨#[]⟩, .int .i64 0, .int .i64 0] 74 (0, 0)) := kept_block hbN (last_block Y1 _ rfl); have hNx := (block_facts hK).1; have hNf := (block_facts hK).2; have hNl := (Array.getElem?_eq_some_iff.1 hK).1) | skip)))
    all_goals
      have HbN : Hid (Below Y1.heap.size Y1 wN) := (by first | exact (Below.refl Y1.heap.size Y1).drew.trans hbN | exact ((Below.refl Y1.heap.size Y1).alloc (Nat.le_refl _) _).drew.trans (hbN.mono (by show Y1.heap.size ≤ (World.alloc _ _).heap.size; simp)))
      have hsN1 := (unhide HbN).size
      refine ⟨rfl, _, _, _, _, _, _, _, rfl, ?_, ?_, ?_, ?_, ?_, ?_, ?_⟩
      · first | with_reducible exact last_block _ _ rfl | with_reducible exact setRow5 hK | with_reducible exact drew_block (last_block _ _ rfl) | with_reducible exact drew_block (setRow5 hK)
      · refine kept_block (X := Y1) ?_ (unhide KC)
        repeat (first | with_reducible exact unhide HbN | with_reducible refine bdrew ?_ | (with_reducible refine bset ?_ ?_; (focus (first | omega | (simp; done) | (simp; omega)))) | (with_reducible refine balloc ?_ ?_; (focus (first | omega | (simp; done) | (simp; omega)))))
      · refine kept_block (X := Y1) ?_ (unhide KSx)
        repeat (first | with_reducible exact unhide HbN | with_reducible refine bdrew ?_ | (with_reducible refine bset ?_ ?_; (focus (first | omega | (simp; done) | (simp; omega)))) | (with_reducible refine balloc ?_ ?_; (focus (first | omega | (simp; done) | (simp; omega)))))
      · refine (unhide HRx).kept ?_
        repeat (first | with_reducible exact unhide HbN | with_reducible refine bdrew ?_ | (with_reducible refine bset ?_ ?_; (focus (first | omega | (simp; done) | (simp; omega)))) | (with_reducible refine balloc ?_ ?_; (focus (first | omega | (simp; done) | (simp; omega)))))
      · refine kept_block (X := Y1) ?_ (unhide KGx)
        repeat (first | with_reducible exact unhide HbN | with_reducible refine bdrew ?_ | (with_reducible refine bset ?_ ?_; (focus (first | omega | (simp; done) | (simp; omega)))) | (with_reducible refine balloc ?_ ?_; (focus (first | omega | (simp; done) | (simp; omega)))))
      · refine (unhide HOx).trans (Only.of ?_)
        repeat (first | with_reducible exact unhide HbN | with_reducible refine bdrew ?_ | (with_reducible refine bset ?_ ?_; (focus (first | omega | (simp; done) | (simp; omega)))) | (with_reducible refine balloc ?_ ?_; (focus (first | omega | (simp; done) | (simp; omega)))))
      · omega
  · rintro _ Z ⟨q, x12, x13, x14, x15, x16, x17, rfl, kE, kB, kS, hrZ, kG, hoZ, hq⟩
    clear HEV HR1 KG1 KB1 HO1 KA KA2 KC KGx KSx HRx HOx hszx rule1 rule2
    have hk7 := unhide H_hk7
    subst hk7
    have KE := hide kE
    have KB := hide kB
    have KS := hide kS
    have KG := hide kG
    have HOZ := hide hoZ
    have lq := (Array.getElem?_eq_some_iff.1 kE).1
    have lB := (Array.getElem?_eq_some_iff.1 kB).1
    have lS := (Array.getElem?_eq_some_iff.1 kS).1
    have lG := (Array.getElem?_eq_some_iff.1 kG).1
    obtain ⟨hxE, hfE⟩ := block_facts kE
    have HRZ := hide hrZ
    clear kE kB kS kG hoZ hrZ
    go_wp2_with fail
    refine (unhide HDO _ (unhide HRZ)).mono ?_
    rintro y w3 ⟨rfl, hr3, ho3⟩
    have KE3 := hide ((ho3.block q lq (by omega)).trans (unhide KE))
    have KB3 := hide ((ho3.block W.heap.size lB (by omega)).trans (unhide KB))
    have KS3 := hide ((ho3.block w1.heap.size lS (by omega)).trans (unhide KS))
    have KG3 := hide ((ho3.block g lG hgb).trans (unhide KG))
    have HO3 := hide ((unhide HOZ).trans (only_both ho3))
    have HR3 := hide hr3
    have hs3 := ho3.size
    clear hr3 ho3 hxE hfE KE KB KS KG HOZ HRZ HDO
    go_wp2_with fail
    refine (unhide HS2 _ ((unhide HR3).kept ((Below.refl _ _).alloc (Nat.le_refl _) _))).mono ?_
    rintro e w4 ⟨rfl, hb4⟩
    obtain ⟨kR4, hl4, hbW4⟩ := blk1 hb4
    have kE4 := kept_block hbW4 (unhide KE3)
    have kB4 := kept_block hbW4 (unhide KB3)
    have kS4 := kept_block hbW4 (unhide KS3)
    have kG4 := kept_block hbW4 (unhide KG3)
    have HR4 := hide ((unhide HR3).kept hbW4)
    have HO4 := hide ((unhide HO3).trans (Only.of hbW4))
    obtain ⟨hxr, hfr⟩ := block_facts (unhide HR4).run
    obtain ⟨hxE, hfE⟩ := block_facts kE4
    obtain ⟨hxB, hfB⟩ := block_facts kB4
    obtain ⟨hxS, hfS⟩ := block_facts kS4
    obtain ⟨hxR, hfR⟩ := block_facts kR4
    obtain ⟨hxg, hfg⟩ := block_facts kG4
    have KG4 := hide kG4
    have l1 := (Array.getElem?_eq_some_iff.1 kE4).1
    have l2 := (Array.getElem?_eq_some_iff.1 kB4).1
    have l3 := (Array.getElem?_eq_some_iff.1 kS4).1
    have l4 := (Array.getElem?_eq_some_iff.1 kG4).1
    have l5 := (unhide HR4).lt.1
    have n1 : ¬ q = w4.heap.size := by omega
    have n2 : ¬ W.heap.size = w4.heap.size := by omega
    have n3 : ¬ w1.heap.size = w4.heap.size := by omega
    have n4 : ¬ g = w4.heap.size := by omega
    have n5 : ¬ r = w4.heap.size := by omega
    have n6 : ¬ w3.heap.size = w4.heap.size := by omega
    have n7 : ¬ w3.heap.size = g := by omega
    have n8 : ¬ g = w3.heap.size := by omega
    clear hb4 kR4 hbW4 kE4 kB4 kS4 kG4 HR3 KE3 KB3 KS3 KG3 HO3 HS2 lq lB lS lG
    go_wp2_with fail
    refine (must_true _ _).mono ?_
    rintro e _ ⟨rfl, rfl⟩
    go_wp2_with fail
    refine (unhide HSD _ ((unhide HR4).kept ((Below.refl _ _).alloc (Nat.le_refl _) _)) (ablk (unhide KG4))).mono ?_
    rintro e w9 ⟨rfl, kp9, may9, hr9, hk9, ho9, h1, h2⟩
    have H9 := hide (And.intro hr9 (And.intro hk9 (And.intro h1 h2)))
    have HO9 := hide (((unhide HO4).trans (Only.of ((Below.refl _ _).alloc (Nat.le_refl _) _))).trans ho9)
    clear hr9 hk9 ho9 h1 h2
    go_wp2
    exact bodyPost_end (v := .tuple #[]) (by simp [results, Tryz.results29, go_sem]) rfl ⟨rfl, kp9, may9, (unhide H9).1, (unhide H9).2.1, unhide HO9, (unhide H9).2.2.1, (unhide H9).2.2.2⟩
set_option maxRecDepth 10000 in
set_option maxHeartbeats 2000000 in
theorem blown_trial (h : RunRel W r b j ex inp d) (k n cut torn : Int) (kp may : Bool) (d' : M.Dev) (K N : Nat) (T : ByteArray) (er ve : Nat) (tx : ByteArray) (ask : Int) (s1 s2 s3 s4 s5 s6 t1 t2 t3 t4 t5 t6 : Int)
    (hev : ∀ X : World, Calls Tryz.prog 44 #[jobV j ex, .agg #[.int .i64 k, .int .i64 n, .int .i64 cut, .int .i64 torn]] X fun e w' => e = .returned (evV K N T cut torn) ∧ Below X.heap.size X w') (hT : T.size ≤ maxLen)
    (hdo : M.doM d ⟨K, N, T, cut, torn⟩ = (d', ⟨er, ve, tx, ask⟩)) (hst : statOf d = .agg #[.bool true, .int .i64 s1, .int .i64 s2, .int .i64 s3, .int .i64 s4, .int .i64 s5, .int .i64 s6]) (hst' : statOf d' = .agg #[.bool true, .int .i64 t1, .int .i64 t2, .int .i64 t3, .int .i64 t4, .int .i64 t5, .int .i64 t6])
    (hg : W.heap[g]? = some (.cells #[.bool kp, .bool may] 58 (0, 0))) (hgb : ¬ g = b) (hgr : ¬ g = r) (hk7 : K = 7) (hs1 : s1 = 2) (he : er = 0)
    (hsd : ∀ X : World, RunRel X r b j ex inp d' → X.heap[g]? = some (.cells #[.bool true, .bool false] 58 (0, 0)) → Calls Tryz.prog 45 #[.pointer (some ⟨r, 0, none⟩), .pointer (some ⟨g, 0, none⟩)] X fun e w' => SoundPost X r b g j ex inp d' e w') :
    Calls Tryz.prog 29 #[.pointer (some ⟨r, 0, none⟩), .pointer (some ⟨g, 0, none⟩), .agg #[.int .i64 k, .int .i64 n, .int .i64 cut, .int .i64 torn]] W fun e w' => SoundPost W r b g j ex inp d' e w' := by
  have HR := hide h
  have HG := hide hg
  have HEV := hide hev
  have HDO : Hid (∀ X : World, RunRel X r b j ex inp d → Calls Tryz.prog 34 #[.pointer (some ⟨r, 0, none⟩), evV K N T cut torn] X fun y w' => y = .returned (.agg #[.int .i64 (er : Nat), .int .i64 (ve : Nat), .string tx, .int .i64 ask]) ∧ RunRel w' r b j ex inp d' ∧ Only (· = b) X w') := by
    intro X hX
    refine (runDo_any hX ⟨K, N, T, cut, torn⟩ hT).mono fun y w' hp => ?_
    have hrel := hX.does hp
    obtain ⟨hy, _, ho⟩ := hp
    rw [hdo] at hrel hy
    exact ⟨hy, hrel, ho⟩
  have HS1 : Hid (∀ X : World, RunRel X r b j ex inp d → Calls Tryz.prog 28 #[.pointer (some ⟨r, 0, none⟩)] X fun e w' => e = .returned (.agg #[.bool true, .int .i64 s1, .int .i64 s2, .int .i64 s3, .int .i64 s4, .int .i64 s5, .int .i64 s6]) ∧ Below X.heap.size X w') := by
    intro X hX
    have := runStatus_any hX
    rwa [hst] at this
  have HS2 : Hid (∀ X : World, RunRel X r b j ex inp d' → Calls Tryz.prog 28 #[.pointer (some ⟨r, 0, none⟩)] X fun e w' => e = .returned (.agg #[.bool true, .int .i64 t1, .int .i64 t2, .int .i64 t3, .int .i64 t4, .int .i64 t5, .int .i64 t6]) ∧ Below X.heap.size X w') := by
    intro X hX
    have := runStatus_any hX
    rwa [hst'] at this
  have HSD := hide hsd
  subst he
  have H_hk7 := hide hk7
  clear hk7
  have H_hs1 := hide hs1
  clear hs1
  have hgl := (Array.getElem?_eq_some_iff.1 hg).1
  have hrl := h.lt.1
  have hbl := h.lt.2
  clear h hg hev hdo hst hst' hT hsd
  go_enter Tryz.func29, Tryz.ntmps29
  go_wp2_with fail
  refine (unhide HS1 _ ((unhide HR).kept ((Below.refl _ _).alloc (Nat.le_refl _) _))).mono ?_
  rintro e w1 ⟨rfl, hb1⟩
  obtain ⟨kB1, hs1, hbW1⟩ := blk1 hb1
  have HR1 := hide ((unhide HR).kept hbW1)
  have KG1 := hide (kept_block hbW1 (unhide HG))
  have KB1 := hide kB1
  have HO1 := hide (Only.of (p := Both b g) hbW1)
  have hsz1 := hbW1.size
  clear hb1 kB1 hbW1 HS1 HR HG
  go_wp2_with fail
  have rule1 : ∀ (Y : World) (o : Nat), Y.heap[W.heap.size]? = some (.cells #[.int .i64 k, .int .i64 n, .int .i64 cut, .int .i64 torn] 61 (0, 0)) → Y.cell? ⟨W.heap.size, o, none⟩ = (#[.int .i64 k, .int .i64 n, .int .i64 cut, .int .i64 torn] : Array Value)[o]? := fun Y o hh => cell_in hh o
  have rule2 : ∀ (Y : World) (o : Nat), Y.heap[r]? = some (.cells (runC b j ex inp true) 32 (0, 0)) → Y.cell? ⟨r, o, none⟩ = (runC b j ex inp true)[o]? := fun Y o hh => cell_in hh o
  have KA := hide (drew_block (ablk (o2 := .cells #[.bool true, .int .i64 s1, .int .i64 s2, .int .i64 s3, .int .i64 s4, .int .i64 s5, .int .i64 s6] 52) (unhide HR1).run))
  have KA2 := hide (ablk (o2 := .cells #[.bool true, .int .i64 s1, .int .i64 s2, .int .i64 s3, .int .i64 s4, .int .i64 s5, .int .i64 s6] 52) (unhide HR1).run)
  have KC := hide (ablk (o2 := .cells #[.bool true, .int .i64 s1, .int .i64 s2, .int .i64 s3, .int .i64 s4, .int .i64 s5, .int .i64 s6] 52) (unhide KB1))
  have KGx := hide (ablk (o2 := .cells #[.bool true, .int .i64 s1, .int .i64 s2, .int .i64 s3, .int .i64 s4, .int .i64 s5, .int .i64 s6] 52) (unhide KG1))
  have KSx := hide (last_block w1 (.cells #[.bool true, .int .i64 s1, .int .i64 s2, .int .i64 s3, .int .i64 s4, .int .i64 s5, .int .i64 s6] 52) rfl)
  have HRx := hide ((unhide HR1).kept ((Below.refl _ _).alloc (Nat.le_refl _) (.cells #[.bool true, .int .i64 s1, .int .i64 s2, .int .i64 s3, .int .i64 s4, .int .i64 s5, .int .i64 s6] 52)))
  have HOx := hide ((unhide HO1).trans (Only.of ((Below.refl _ _).alloc (Nat.le_refl _) (.cells #[.bool true, .int .i64 s1, .int .i64 s2, .int .i64 s3, .int .i64 s4, .int .i64 s5, .int .i64 s6] 52))))
  have hszx : (w1.alloc (.cells #[.bool true, .int .i64 s1, .int .i64 s2, .int .i64 s3, .int .i64 s4, .int .i64 s5, .int .i64 s6] 52)).heap.size = w1.heap.size + 1 := by simp
  refine cut_code (fun a Z => ∃ (q : Nat) (x12 x13 x14 x15 x16 x17 : Value), a = ⟨#[.pointer (some ⟨r, 0, none⟩), .pointer (some ⟨g, 0, none⟩), .agg #[.int .i64 k, .int .i64 n, .int .i64 cut, .int .i64 torn], undef, undef, .pointer (some ⟨W.heap.size, 0, none⟩), .pointer (some ⟨w1.heap.size, 0, none⟩), .pointer (some ⟨q, 0, none⟩), undef, undef, .pointer (some ⟨r, 0, none⟩), .agg #[.bool true, .int .i64 s1, .int .i64 s2, .int .i64 s3, .int .i64 s4, .int .i64 s5, .int .i64 s6], x12, x13, x14, x15, x16, x17, undef, undef, undef, undef, undef, undef, undef, undef, undef, undef, undef, undef, undef, undef, undef, undef, undef, undef, undef, undef, undef, undef, undef, undef, undef, undef, undef, undef, undef, undef, undef, undef, undef, undef, undef, undef, undef, undef, undef, undef, undef, undef, undef, undef, undef, undef, undef, undef, undef, undef, undef, undef, undef, undef, undef, undef, undef, undef, undef, undef, undef, undef, undef, undef, undef, undef, undef, undef, undef, undef, undef, undef, undef, undef, undef, undef, undef, undef, undef, undef, undef, undef, undef, undef, undef, undef, undef, undef, undef, undef, undef, undef], []⟩ ∧ Z.heap[q]? = some (.cells #[.int .i64 (K : Nat), .int .i64 (N : Nat), .string T, .int .i64 cut, .int .i64 torn] 74 (0, 0)) ∧ Z.heap[W.heap.size]? = some (.cells #[.int .i64 k, .int .i64 n, .int .i64 cut, .int .i64 torn] 61 (0, 0)) ∧ Z.heap[w1.heap.size]? = some (.cells #[.bool true, .int .i64 s1, .int .i64 s2, .int .i64 s3, .int .i64 s4, .int .i64 s5, .int .i64 s6] 52 (0, 0)) ∧ RunRel Z r b j ex inp d ∧ Z.heap[g]? = some (.cells #[.bool kp, .bool may] 58 (0, 0)) ∧ Only (Both b g) W Z ∧ w1.heap.size < q) ?_ ?_
  · clear KA
    have HSX := hide hszx
    have m1 : r < (w1.alloc (.cells #[.bool true, .int .i64 s1, .int .i64 s2, .int .i64 s3, .int .i64 s4, .int .i64 s5, .int .i64 s6] 52)).heap.size := by omega
    have m2 : W.heap.size < (w1.alloc (.cells #[.bool true, .int .i64 s1, .int .i64 s2, .int .i64 s3, .int .i64 s4, .int .i64 s5, .int .i64 s6] 52)).heap.size := by omega
    have m3 : g < (w1.alloc (.cells #[.bool true, .int .i64 s1, .int .i64 s2, .int .i64 s3, .int .i64 s4, .int .i64 s5, .int .i64 s6] 52)).heap.size := by omega
    have m4 : w1.heap.size < (w1.alloc (.cells #[.bool true, .int .i64 s1, .int .i64 s2, .int .i64 s3, .int .i64 s4, .int .i64 s5, .int .i64 s6] 52)).heap.size := by omega
    have m5 : b < (w1.alloc (.cells #[.bool true, .int .i64 s1, .int .i64 s2, .int .i64 s3, .int .i64 s4, .int .i64 s5, .int .i64 s6] 52)).heap.size := by omega
    clear hszx
    generalize (w1.alloc (.cells #[.bool true, .int .i64 s1, .int .i64 s2, .int .i64 s3, .int .i64 s4, .int .i64 s5, .int .i64 s6] 52)) = Y1 at *
    go_region_held3 (fun Y => Y.heap[r]? = some (.cells (runC b j ex inp true) 32 (0, 0)) ∧ Y.heap[W.heap.size]? = some (.cells #[.int .i64 k, .int .i64 n, .int .i64 cut, .int .i64 torn] 61 (0, 0))) (refine ⟨?_, ?_⟩ <;> (repeat (first | with_reducible exact hC1 | with_reducible exact hC2 | with_reducible exact unhide KA2 | with_reducible exact unhide KC | with_reducible refine ablk ?_ | with_reducible refine drew_block ?_ | (with_reducible refine sblk ?_ ?_; (focus omega))))) ((go_at_call 44; with_reducible refine (unhide HEV _).mono ?_; rintro y wN ⟨rfl, hbN⟩; have hsN := hbN.size; have hC1 : wN.heap[r]? = some (.cells (runC b j ex inp true) 32 (0, 0)) := kept_block hbN (by repeat (first | with_reducible exact unhide KA2 | with_reducible refine ablk ?_ | with_reducible refine drew_block ?_)); have hC2 : wN.heap[W.heap.size]? = some (.cells #[.int .i64 k, .int .i64 n, .int .i64 cut, .int .i64 torn] 61 (0, 0)) := kept_block hbN (by repeat (first | with_reducible exact unhide KC | with_reducible refine ablk ?_ | with_reducible refine drew_block ?_)); (first | (have hK : wN.heap[Y1.heap.size]? = some (.cells #[.int .i64 0, .int .i64 0, .string ⟨#[]⟩, .int .i64 0, .int .i64 0] 74 (0, 0)) := kept_block hbN (drew_block (last_block _ _ rfl)); have hNx := (block_facts hK).1; have hNf := (block_facts hK).2; have hNl := (Array.getElem?_eq_some_iff.1 hK).1) | (have hK : wN.heap[Y1.heap.size]? = some (.cells #[.int .i64 0, .int .i64 0, .string ⟨#[]⟩, .int .i64 0, .int .i64 0] 74 (0, 0)) := kept_block hbN (last_block Y1.drew _ rfl); have hNx := (block_facts hK).1; have hNf := (block_facts hK).2; have hNl := (Array.getElem?_eq_some_iff.1 hK).1) | (have hK : wN.heap[Y1.heap.size]? = some (.cells #[.int .i64 0, .int .i64 0, .string ⟨#[]⟩, .int .i64 0, .int .i64 0] 74 (0, 0)) := kept_block hbN (last_block Y1 _ rfl); have hNx := (block_facts hK).1; have hNf := (block_facts hK).2; have hNl := (Array.getElem?_eq_some_iff.1 hK).1) | skip)))
    all_goals
      have HbN : Hid (Below Y1.heap.size Y1 wN) := (by first | exact (Below.refl Y1.heap.size Y1).drew.trans hbN | exact ((Below.refl Y1.heap.size Y1).alloc (Nat.le_refl _) _).drew.trans (hbN.mono (by show Y1.heap.size ≤ (World.alloc _ _).heap.size; simp)))
      have hsN1 := (unhide HbN).size
      refine ⟨rfl, _, _, _, _, _, _, _, rfl, ?_, ?_, ?_, ?_, ?_, ?_, ?_⟩
      · first | with_reducible exact last_block _ _ rfl | with_reducible exact setRow5 hK | with_reducible exact drew_block (last_block _ _ rfl) | with_reducible exact drew_block (setRow5 hK)
      · refine kept_block (X := Y1) ?_ (unhide KC)
        repeat (first | with_reducible exact unhide HbN | with_reducible refine bdrew ?_ | (with_reducible refine bset ?_ ?_; (focus (first | omega | (simp; done) | (simp; omega)))) | (with_reducible refine balloc ?_ ?_; (focus (first | omega | (simp; done) | (simp; omega)))))
      · refine kept_block (X := Y1) ?_ (unhide KSx)
        repeat (first | with_reducible exact unhide HbN | with_reducible refine bdrew ?_ | (with_reducible refine bset ?_ ?_; (focus (first | omega | (simp; done) | (simp; omega)))) | (with_reducible refine balloc ?_ ?_; (focus (first | omega | (simp; done) | (simp; omega)))))
      · refine (unhide HRx).kept ?_
        repeat (first | with_reducible exact unhide HbN | with_reducible refine bdrew ?_ | (with_reducible refine bset ?_ ?_; (focus (first | omega | (simp; done) | (simp; omega)))) | (with_reducible refine balloc ?_ ?_; (focus (first | omega | (simp; done) | (simp; omega)))))
      · refine kept_block (X := Y1) ?_ (unhide KGx)
        repeat (first | with_reducible exact unhide HbN | with_reducible refine bdrew ?_ | (with_reducible refine bset ?_ ?_; (focus (first | omega | (simp; done) | (simp; omega)))) | (with_reducible refine balloc ?_ ?_; (focus (first | omega | (simp; done) | (simp; omega)))))
      · refine (unhide HOx).trans (Only.of ?_)
        repeat (first | with_reducible exact unhide HbN | with_reducible refine bdrew ?_ | (with_reducible refine bset ?_ ?_; (focus (first | omega | (simp; done) | (simp; omega)))) | (with_reducible refine balloc ?_ ?_; (focus (first | omega | (simp; done) | (simp; omega)))))
      · omega
  · rintro _ Z ⟨q, x12, x13, x14, x15, x16, x17, rfl, kE, kB, kS, hrZ, kG, hoZ, hq⟩
    clear HEV HR1 KG1 KB1 HO1 KA KA2 KC KGx KSx HRx HOx hszx rule1 rule2
    have hk7 := unhide H_hk7
    subst hk7
    have hs1 := unhide H_hs1
    subst hs1
    have KE := hide kE
    have KB := hide kB
    have KS := hide kS
    have KG := hide kG
    have HOZ := hide hoZ
    have lq := (Array.getElem?_eq_some_iff.1 kE).1
    have lB := (Array.getElem?_eq_some_iff.1 kB).1
    have lS := (Array.getElem?_eq_some_iff.1 kS).1
    have lG := (Array.getElem?_eq_some_iff.1 kG).1
    obtain ⟨hxE, hfE⟩ := block_facts kE
    have HRZ := hide hrZ
    clear kE kB kS kG hoZ hrZ
    go_wp2_with fail
    refine (unhide HDO _ (unhide HRZ)).mono ?_
    rintro y w3 ⟨rfl, hr3, ho3⟩
    have KE3 := hide ((ho3.block q lq (by omega)).trans (unhide KE))
    have KB3 := hide ((ho3.block W.heap.size lB (by omega)).trans (unhide KB))
    have KS3 := hide ((ho3.block w1.heap.size lS (by omega)).trans (unhide KS))
    have KG3 := hide ((ho3.block g lG hgb).trans (unhide KG))
    have HO3 := hide ((unhide HOZ).trans (only_both ho3))
    have HR3 := hide hr3
    have hs3 := ho3.size
    clear hr3 ho3 hxE hfE KE KB KS KG HOZ HRZ HDO
    go_wp2_with fail
    refine (unhide HS2 _ ((unhide HR3).kept ((Below.refl _ _).alloc (Nat.le_refl _) _))).mono ?_
    rintro e w4 ⟨rfl, hb4⟩
    obtain ⟨kR4, hl4, hbW4⟩ := blk1 hb4
    have kE4 := kept_block hbW4 (unhide KE3)
    have kB4 := kept_block hbW4 (unhide KB3)
    have kS4 := kept_block hbW4 (unhide KS3)
    have kG4 := kept_block hbW4 (unhide KG3)
    have HR4 := hide ((unhide HR3).kept hbW4)
    have HO4 := hide ((unhide HO3).trans (Only.of hbW4))
    obtain ⟨hxr, hfr⟩ := block_facts (unhide HR4).run
    obtain ⟨hxE, hfE⟩ := block_facts kE4
    obtain ⟨hxB, hfB⟩ := block_facts kB4
    obtain ⟨hxS, hfS⟩ := block_facts kS4
    obtain ⟨hxR, hfR⟩ := block_facts kR4
    obtain ⟨hxg, hfg⟩ := block_facts kG4
    have KG4 := hide kG4
    have l1 := (Array.getElem?_eq_some_iff.1 kE4).1
    have l2 := (Array.getElem?_eq_some_iff.1 kB4).1
    have l3 := (Array.getElem?_eq_some_iff.1 kS4).1
    have l4 := (Array.getElem?_eq_some_iff.1 kG4).1
    have l5 := (unhide HR4).lt.1
    have n1 : ¬ q = w4.heap.size := by omega
    have n2 : ¬ W.heap.size = w4.heap.size := by omega
    have n3 : ¬ w1.heap.size = w4.heap.size := by omega
    have n4 : ¬ g = w4.heap.size := by omega
    have n5 : ¬ r = w4.heap.size := by omega
    have n6 : ¬ w3.heap.size = w4.heap.size := by omega
    have n7 : ¬ w3.heap.size = g := by omega
    have n8 : ¬ g = w3.heap.size := by omega
    clear hb4 kR4 hbW4 kE4 kB4 kS4 kG4 HR3 KE3 KB3 KS3 KG3 HO3 HS2 lq lB lS lG
    go_wp2_with fail
    refine (must_true _ _).mono ?_
    rintro e _ ⟨rfl, rfl⟩
    go_wp2_with fail
    refine (unhide HSD _ ((watch_set (watch_set (unhide HR4) hgb hgr) hgb hgr).kept ((Below.refl _ _).alloc (Nat.le_refl _) _)) (ablk ((setCell_in ((setCell_in (unhide KG4) 0 (.bool true)).trans rfl) 1 (.bool false)).trans rfl))).mono ?_
    rintro e w9 ⟨rfl, kp9, may9, hr9, hk9, ho9, h1, h2⟩
    have H9 := hide (And.intro hr9 (And.intro hk9 (And.intro h1 h2)))
    have HO9 := hide (((both_set (both_set (unhide HO4))).trans (Only.of ((Below.refl _ _).alloc (Nat.le_refl _) _))).trans ho9)
    clear hr9 hk9 ho9 h1 h2
    go_wp2
    exact bodyPost_end (v := .tuple #[]) (by simp [results, Tryz.results29, go_sem]) rfl ⟨rfl, kp9, may9, (unhide H9).1, (unhide H9).2.1, unhide HO9, (unhide H9).2.2.1, (unhide H9).2.2.2⟩
set_option maxRecDepth 10000 in
set_option maxHeartbeats 2000000 in
theorem blown_off (h : RunRel W r b j ex inp d) (k n cut torn : Int) (kp may : Bool) (d' : M.Dev) (K N : Nat) (T : ByteArray) (er ve : Nat) (tx : ByteArray) (ask : Int) (s1 s2 s3 s4 s5 s6 t1 t2 t3 t4 t5 t6 : Int) (tb : Bool)
    (hev : ∀ X : World, Calls Tryz.prog 44 #[jobV j ex, .agg #[.int .i64 k, .int .i64 n, .int .i64 cut, .int .i64 torn]] X fun e w' => e = .returned (evV K N T cut torn) ∧ Below X.heap.size X w') (hT : T.size ≤ maxLen)
    (hdo : M.doM d ⟨K, N, T, cut, torn⟩ = (d', ⟨er, ve, tx, ask⟩)) (hst : statOf d = .agg #[.bool true, .int .i64 s1, .int .i64 s2, .int .i64 s3, .int .i64 s4, .int .i64 s5, .int .i64 s6]) (hst' : statOf d' = .agg #[.bool tb, .int .i64 t1, .int .i64 t2, .int .i64 t3, .int .i64 t4, .int .i64 t5, .int .i64 t6])
    (hg : W.heap[g]? = some (.cells #[.bool kp, .bool may] 58 (0, 0))) (hgb : ¬ g = b) (hk1 : K = 1) (he : ¬ er = 10)
    (hsd : ∀ X : World, RunRel X r b j ex inp d' → X.heap[g]? = some (.cells #[.bool kp, .bool may] 58 (0, 0)) → Calls Tryz.prog 45 #[.pointer (some ⟨r, 0, none⟩), .pointer (some ⟨g, 0, none⟩)] X fun e w' => SoundPost X r b g j ex inp d' e w') :
    Calls Tryz.prog 29 #[.pointer (some ⟨r, 0, none⟩), .pointer (some ⟨g, 0, none⟩), .agg #[.int .i64 k, .int .i64 n, .int .i64 cut, .int .i64 torn]] W fun e w' => SoundPost W r b g j ex inp d' e w' := by
  have HR := hide h
  have HG := hide hg
  have HEV := hide hev
  have HDO : Hid (∀ X : World, RunRel X r b j ex inp d → Calls Tryz.prog 34 #[.pointer (some ⟨r, 0, none⟩), evV K N T cut torn] X fun y w' => y = .returned (.agg #[.int .i64 (er : Nat), .int .i64 (ve : Nat), .string tx, .int .i64 ask]) ∧ RunRel w' r b j ex inp d' ∧ Only (· = b) X w') := by
    intro X hX
    refine (runDo_any hX ⟨K, N, T, cut, torn⟩ hT).mono fun y w' hp => ?_
    have hrel := hX.does hp
    obtain ⟨hy, _, ho⟩ := hp
    rw [hdo] at hrel hy
    exact ⟨hy, hrel, ho⟩
  have HS1 : Hid (∀ X : World, RunRel X r b j ex inp d → Calls Tryz.prog 28 #[.pointer (some ⟨r, 0, none⟩)] X fun e w' => e = .returned (.agg #[.bool true, .int .i64 s1, .int .i64 s2, .int .i64 s3, .int .i64 s4, .int .i64 s5, .int .i64 s6]) ∧ Below X.heap.size X w') := by
    intro X hX
    have := runStatus_any hX
    rwa [hst] at this
  have HS2 : Hid (∀ X : World, RunRel X r b j ex inp d' → Calls Tryz.prog 28 #[.pointer (some ⟨r, 0, none⟩)] X fun e w' => e = .returned (.agg #[.bool tb, .int .i64 t1, .int .i64 t2, .int .i64 t3, .int .i64 t4, .int .i64 t5, .int .i64 t6]) ∧ Below X.heap.size X w') := by
    intro X hX
    have := runStatus_any hX
    rwa [hst'] at this
  have HSD := hide hsd
  have H_hk1 := hide hk1
  clear hk1
  have he' : ¬ (er : Int) = 10 := by omega
  have hgl := (Array.getElem?_eq_some_iff.1 hg).1
  have hrl := h.lt.1
  have hbl := h.lt.2
  clear h hg hev hdo hst hst' hT hsd
  go_enter Tryz.func29, Tryz.ntmps29
  go_wp2_with fail
  refine (unhide HS1 _ ((unhide HR).kept ((Below.refl _ _).alloc (Nat.le_refl _) _))).mono ?_
  rintro e w1 ⟨rfl, hb1⟩
  obtain ⟨kB1, hs1, hbW1⟩ := blk1 hb1
  have HR1 := hide ((unhide HR).kept hbW1)
  have KG1 := hide (kept_block hbW1 (unhide HG))
  have KB1 := hide kB1
  have HO1 := hide (Only.of (p := Both b g) hbW1)
  have hsz1 := hbW1.size
  clear hb1 kB1 hbW1 HS1 HR HG
  go_wp2_with fail
  have rule1 : ∀ (Y : World) (o : Nat), Y.heap[W.heap.size]? = some (.cells #[.int .i64 k, .int .i64 n, .int .i64 cut, .int .i64 torn] 61 (0, 0)) → Y.cell? ⟨W.heap.size, o, none⟩ = (#[.int .i64 k, .int .i64 n, .int .i64 cut, .int .i64 torn] : Array Value)[o]? := fun Y o hh => cell_in hh o
  have rule2 : ∀ (Y : World) (o : Nat), Y.heap[r]? = some (.cells (runC b j ex inp true) 32 (0, 0)) → Y.cell? ⟨r, o, none⟩ = (runC b j ex inp true)[o]? := fun Y o hh => cell_in hh o
  have KA := hide (drew_block (ablk (o2 := .cells #[.bool true, .int .i64 s1, .int .i64 s2, .int .i64 s3, .int .i64 s4, .int .i64 s5, .int .i64 s6] 52) (unhide HR1).run))
  have KA2 := hide (ablk (o2 := .cells #[.bool true, .int .i64 s1, .int .i64 s2, .int .i64 s3, .int .i64 s4, .int .i64 s5, .int .i64 s6] 52) (unhide HR1).run)
  have KC := hide (ablk (o2 := .cells #[.bool true, .int .i64 s1, .int .i64 s2, .int .i64 s3, .int .i64 s4, .int .i64 s5, .int .i64 s6] 52) (unhide KB1))
  have KGx := hide (ablk (o2 := .cells #[.bool true, .int .i64 s1, .int .i64 s2, .int .i64 s3, .int .i64 s4, .int .i64 s5, .int .i64 s6] 52) (unhide KG1))
  have KSx := hide (last_block w1 (.cells #[.bool true, .int .i64 s1, .int .i64 s2, .int .i64 s3, .int .i64 s4, .int .i64 s5, .int .i64 s6] 52) rfl)
  have HRx := hide ((unhide HR1).kept ((Below.refl _ _).alloc (Nat.le_refl _) (.cells #[.bool true, .int .i64 s1, .int .i64 s2, .int .i64 s3, .int .i64 s4, .int .i64 s5, .int .i64 s6] 52)))
  have HOx := hide ((unhide HO1).trans (Only.of ((Below.refl _ _).alloc (Nat.le_refl _) (.cells #[.bool true, .int .i64 s1, .int .i64 s2, .int .i64 s3, .int .i64 s4, .int .i64 s5, .int .i64 s6] 52))))
  have hszx : (w1.alloc (.cells #[.bool true, .int .i64 s1, .int .i64 s2, .int .i64 s3, .int .i64 s4, .int .i64 s5, .int .i64 s6] 52)).heap.size = w1.heap.size + 1 := by simp
  refine cut_code (fun a Z => ∃ (q : Nat) (x12 x13 x14 x15 x16 x17 : Value), a = ⟨#[.pointer (some ⟨r, 0, none⟩), .pointer (some ⟨g, 0, none⟩), .agg #[.int .i64 k, .int .i64 n, .int .i64 cut, .int .i64 torn], undef, undef, .pointer (some ⟨W.heap.size, 0, none⟩), .pointer (some ⟨w1.heap.size, 0, none⟩), .pointer (some ⟨q, 0, none⟩), undef, undef, .pointer (some ⟨r, 0, none⟩), .agg #[.bool true, .int .i64 s1, .int .i64 s2, .int .i64 s3, .int .i64 s4, .int .i64 s5, .int .i64 s6], x12, x13, x14, x15, x16, x17, undef, undef, undef, undef, undef, undef, undef, undef, undef, undef, undef, undef, undef, undef, undef, undef, undef, undef, undef, undef, undef, undef, undef, undef, undef, undef, undef, undef, undef, undef, undef, undef, undef, undef, undef, undef, undef, undef, undef, undef, undef, undef, undef, undef, undef, undef, undef, undef, undef, undef, undef, undef, undef, undef, undef, undef, undef, undef, undef, undef, undef, undef, undef, undef, undef, undef, undef, undef, undef, undef, undef, undef, undef, undef, undef, undef, undef, undef, undef, undef, undef, undef, undef, undef, undef, undef, undef, undef, undef, undef, undef, undef], []⟩ ∧ Z.heap[q]? = some (.cells #[.int .i64 (K : Nat), .int .i64 (N : Nat), .string T, .int .i64 cut, .int .i64 torn] 74 (0, 0)) ∧ Z.heap[W.heap.size]? = some (.cells #[.int .i64 k, .int .i64 n, .int .i64 cut, .int .i64 torn] 61 (0, 0)) ∧ Z.heap[w1.heap.size]? = some (.cells #[.bool true, .int .i64 s1, .int .i64 s2, .int .i64 s3, .int .i64 s4, .int .i64 s5, .int .i64 s6] 52 (0, 0)) ∧ RunRel Z r b j ex inp d ∧ Z.heap[g]? = some (.cells #[.bool kp, .bool may] 58 (0, 0)) ∧ Only (Both b g) W Z ∧ w1.heap.size < q) ?_ ?_
  · clear KA
    have HSX := hide hszx
    have m1 : r < (w1.alloc (.cells #[.bool true, .int .i64 s1, .int .i64 s2, .int .i64 s3, .int .i64 s4, .int .i64 s5, .int .i64 s6] 52)).heap.size := by omega
    have m2 : W.heap.size < (w1.alloc (.cells #[.bool true, .int .i64 s1, .int .i64 s2, .int .i64 s3, .int .i64 s4, .int .i64 s5, .int .i64 s6] 52)).heap.size := by omega
    have m3 : g < (w1.alloc (.cells #[.bool true, .int .i64 s1, .int .i64 s2, .int .i64 s3, .int .i64 s4, .int .i64 s5, .int .i64 s6] 52)).heap.size := by omega
    have m4 : w1.heap.size < (w1.alloc (.cells #[.bool true, .int .i64 s1, .int .i64 s2, .int .i64 s3, .int .i64 s4, .int .i64 s5, .int .i64 s6] 52)).heap.size := by omega
    have m5 : b < (w1.alloc (.cells #[.bool true, .int .i64 s1, .int .i64 s2, .int .i64 s3, .int .i64 s4, .int .i64 s5, .int .i64 s6] 52)).heap.size := by omega
    clear hszx
    generalize (w1.alloc (.cells #[.bool true, .int .i64 s1, .int .i64 s2, .int .i64 s3, .int .i64 s4, .int .i64 s5, .int .i64 s6] 52)) = Y1 at *
    go_region_held3 (fun Y => Y.heap[r]? = some (.cells (runC b j ex inp true) 32 (0, 0)) ∧ Y.heap[W.heap.size]? = some (.cells #[.int .i64 k, .int .i64 n, .int .i64 cut, .int .i64 torn] 61 (0, 0))) (refine ⟨?_, ?_⟩ <;> (repeat (first | with_reducible exact hC1 | with_reducible exact hC2 | with_reducible exact unhide KA2 | with_reducible exact unhide KC | with_reducible refine ablk ?_ | with_reducible refine drew_block ?_ | (with_reducible refine sblk ?_ ?_; (focus omega))))) ((go_at_call 44; with_reducible refine (unhide HEV _).mono ?_; rintro y wN ⟨rfl, hbN⟩; have hsN := hbN.size; have hC1 : wN.heap[r]? = some (.cells (runC b j ex inp true) 32 (0, 0)) := kept_block hbN (by repeat (first | with_reducible exact unhide KA2 | with_reducible refine ablk ?_ | with_reducible refine drew_block ?_)); have hC2 : wN.heap[W.heap.size]? = some (.cells #[.int .i64 k, .int .i64 n, .int .i64 cut, .int .i64 torn] 61 (0, 0)) := kept_block hbN (by repeat (first | with_reducible exact unhide KC | with_reducible refine ablk ?_ | with_reducible refine drew_block ?_)); (first | (have hK : wN.heap[Y1.heap.size]? = some (.cells #[.int .i64 0, .int .i64 0, .string ⟨#[]⟩, .int .i64 0, .int .i64 0] 74 (0, 0)) := kept_block hbN (drew_block (last_block _ _ rfl)); have hNx := (block_facts hK).1; have hNf := (block_facts hK).2; have hNl := (Array.getElem?_eq_some_iff.1 hK).1) | (have hK : wN.heap[Y1.heap.size]? = some (.cells #[.int .i64 0, .int .i64 0, .string ⟨#[]⟩, .int .i64 0, .int .i64 0] 74 (0, 0)) := kept_block hbN (last_block Y1.drew _ rfl); have hNx := (block_facts hK).1; have hNf := (block_facts hK).2; have hNl := (Array.getElem?_eq_some_iff.1 hK).1) | (have hK : wN.heap[Y1.heap.size]? = some (.cells #[.int .i64 0, .int .i64 0, .string ⟨#[]⟩, .int .i64 0, .int .i64 0] 74 (0, 0)) := kept_block hbN (last_block Y1 _ rfl); have hNx := (block_facts hK).1; have hNf := (block_facts hK).2; have hNl := (Array.getElem?_eq_some_iff.1 hK).1) | skip)))
    all_goals
      have HbN : Hid (Below Y1.heap.size Y1 wN) := (by first | exact (Below.refl Y1.heap.size Y1).drew.trans hbN | exact ((Below.refl Y1.heap.size Y1).alloc (Nat.le_refl _) _).drew.trans (hbN.mono (by show Y1.heap.size ≤ (World.alloc _ _).heap.size; simp)))
      have hsN1 := (unhide HbN).size
      refine ⟨rfl, _, _, _, _, _, _, _, rfl, ?_, ?_, ?_, ?_, ?_, ?_, ?_⟩
      · first | with_reducible exact last_block _ _ rfl | with_reducible exact setRow5 hK | with_reducible exact drew_block (last_block _ _ rfl) | with_reducible exact drew_block (setRow5 hK)
      · refine kept_block (X := Y1) ?_ (unhide KC)
        repeat (first | with_reducible exact unhide HbN | with_reducible refine bdrew ?_ | (with_reducible refine bset ?_ ?_; (focus (first | omega | (simp; done) | (simp; omega)))) | (with_reducible refine balloc ?_ ?_; (focus (first | omega | (simp; done) | (simp; omega)))))
      · refine kept_block (X := Y1) ?_ (unhide KSx)
        repeat (first | with_reducible exact unhide HbN | with_reducible refine bdrew ?_ | (with_reducible refine bset ?_ ?_; (focus (first | omega | (simp; done) | (simp; omega)))) | (with_reducible refine balloc ?_ ?_; (focus (first | omega | (simp; done) | (simp; omega)))))
      · refine (unhide HRx).kept ?_
        repeat (first | with_reducible exact unhide HbN | with_reducible refine bdrew ?_ | (with_reducible refine bset ?_ ?_; (focus (first | omega | (simp; done) | (simp; omega)))) | (with_reducible refine balloc ?_ ?_; (focus (first | omega | (simp; done) | (simp; omega)))))
      · refine kept_block (X := Y1) ?_ (unhide KGx)
        repeat (first | with_reducible exact unhide HbN | with_reducible refine bdrew ?_ | (with_reducible refine bset ?_ ?_; (focus (first | omega | (simp; done) | (simp; omega)))) | (with_reducible refine balloc ?_ ?_; (focus (first | omega | (simp; done) | (simp; omega)))))
      · refine (unhide HOx).trans (Only.of ?_)
        repeat (first | with_reducible exact unhide HbN | with_reducible refine bdrew ?_ | (with_reducible refine bset ?_ ?_; (focus (first | omega | (simp; done) | (simp; omega)))) | (with_reducible refine balloc ?_ ?_; (focus (first | omega | (simp; done) | (simp; omega)))))
      · omega
  · rintro _ Z ⟨q, x12, x13, x14, x15, x16, x17, rfl, kE, kB, kS, hrZ, kG, hoZ, hq⟩
    clear HEV HR1 KG1 KB1 HO1 KA KA2 KC KGx KSx HRx HOx hszx rule1 rule2
    have hk1 := unhide H_hk1
    subst hk1
    have KE := hide kE
    have KB := hide kB
    have KS := hide kS
    have KG := hide kG
    have HOZ := hide hoZ
    have lq := (Array.getElem?_eq_some_iff.1 kE).1
    have lB := (Array.getElem?_eq_some_iff.1 kB).1
    have lS := (Array.getElem?_eq_some_iff.1 kS).1
    have lG := (Array.getElem?_eq_some_iff.1 kG).1
    obtain ⟨hxE, hfE⟩ := block_facts kE
    have HRZ := hide hrZ
    clear kE kB kS kG hoZ hrZ
    go_wp2_with fail
    refine (unhide HDO _ (unhide HRZ)).mono ?_
    rintro y w3 ⟨rfl, hr3, ho3⟩
    have KE3 := hide ((ho3.block q lq (by omega)).trans (unhide KE))
    have KB3 := hide ((ho3.block W.heap.size lB (by omega)).trans (unhide KB))
    have KS3 := hide ((ho3.block w1.heap.size lS (by omega)).trans (unhide KS))
    have KG3 := hide ((ho3.block g lG hgb).trans (unhide KG))
    have HO3 := hide ((unhide HOZ).trans (only_both ho3))
    have HR3 := hide hr3
    have hs3 := ho3.size
    clear hr3 ho3 hxE hfE KE KB KS KG HOZ HRZ HDO
    go_wp2_with fail
    refine (unhide HS2 _ ((unhide HR3).kept ((Below.refl _ _).alloc (Nat.le_refl _) _))).mono ?_
    rintro e w4 ⟨rfl, hb4⟩
    obtain ⟨kR4, hl4, hbW4⟩ := blk1 hb4
    have kE4 := kept_block hbW4 (unhide KE3)
    have kB4 := kept_block hbW4 (unhide KB3)
    have kS4 := kept_block hbW4 (unhide KS3)
    have kG4 := kept_block hbW4 (unhide KG3)
    have HR4 := hide ((unhide HR3).kept hbW4)
    have HO4 := hide ((unhide HO3).trans (Only.of hbW4))
    obtain ⟨hxr, hfr⟩ := block_facts (unhide HR4).run
    obtain ⟨hxE, hfE⟩ := block_facts kE4
    obtain ⟨hxB, hfB⟩ := block_facts kB4
    obtain ⟨hxS, hfS⟩ := block_facts kS4
    obtain ⟨hxR, hfR⟩ := block_facts kR4
    obtain ⟨hxg, hfg⟩ := block_facts kG4
    have KG4 := hide kG4
    have l1 := (Array.getElem?_eq_some_iff.1 kE4).1
    have l2 := (Array.getElem?_eq_some_iff.1 kB4).1
    have l3 := (Array.getElem?_eq_some_iff.1 kS4).1
    have l4 := (Array.getElem?_eq_some_iff.1 kG4).1
    have l5 := (unhide HR4).lt.1
    have n1 : ¬ q = w4.heap.size := by omega
    have n2 : ¬ W.heap.size = w4.heap.size := by omega
    have n3 : ¬ w1.heap.size = w4.heap.size := by omega
    have n4 : ¬ g = w4.heap.size := by omega
    have n5 : ¬ r = w4.heap.size := by omega
    have n6 : ¬ w3.heap.size = w4.heap.size := by omega
    have n7 : ¬ w3.heap.size = g := by omega
    have n8 : ¬ g = w3.heap.size := by omega
    clear hb4 kR4 hbW4 kE4 kB4 kS4 kG4 HR3 KE3 KB3 KS3 KG3 HO3 HS2 lq lB lS lG
    go_wp2_with fail
    refine (unhide HSD _ ((unhide HR4).kept ((Below.refl _ _).alloc (Nat.le_refl _) _)) (ablk (unhide KG4))).mono ?_
    rintro e w9 ⟨rfl, kp9, may9, hr9, hk9, ho9, h1, h2⟩
    have H9 := hide (And.intro hr9 (And.intro hk9 (And.intro h1 h2)))
    have HO9 := hide (((unhide HO4).trans (Only.of ((Below.refl _ _).alloc (Nat.le_refl _) _))).trans ho9)
    clear hr9 hk9 ho9 h1 h2
    go_wp2
    exact bodyPost_end (v := .tuple #[]) (by simp [results, Tryz.results29, go_sem]) rfl ⟨rfl, kp9, may9, (unhide H9).1, (unhide H9).2.1, unhide HO9, (unhide H9).2.2.1, (unhide H9).2.2.2⟩
end
end Go.Proofs.YtjfmiomopfjecabGreat

/- One event, at which the power may fail: what becomes of the change. -/
namespace Go.Proofs.YtjfmiomopfjecabGreat
open Go.RowKit Go.Lib

section
variable {W : World} {r b g : Nat} {j : M.Job} {ex inp : ByteArray} {d : M.Dev}
theorem stat_yes (hon : d.on = true) : ∃ a2 a3 a4 a5 a6 : Int, statOf d = .agg #[.bool true, .int .i64 (M.fld d.F 2), .int .i64 a2, .int .i64 a3, .int .i64 a4, .int .i64 a5, .int .i64 a6] := by
  unfold statOf
  rw [if_pos hon]
  exact ⟨_, _, _, _, _, rfl⟩
theorem stat_not (hoff : d.on = false) : statOf d = .agg #[.bool false, .int .i64 0, .int .i64 0, .int .i64 0, .int .i64 0, .int .i64 0, .int .i64 0] := by
  unfold statOf
  rw [if_neg (by rw [hoff]; simp)]
theorem blown_st (hj : M.JobOk j) (hm : j.man.size ≤ maxLen) (hin : inp.size ≤ maxLen) (h : RunRel W r b j ex inp d) (hl : M.Lv j d) (k n cut torn : Int) (hk : -9223372036854775808 ≤ k ∧ k ≤ 9223372036854775807) (hn : -9223372036854775808 ≤ n ∧ n ≤ 9223372036854775807)
    (kp may : Bool) (hg : W.heap[g]? = some (.cells #[.bool kp, .bool may] 58 (0, 0))) (hgb : ¬ g = b) (hgr : ¬ g = r) (ht : may = false → M.upB j d = kp) (hom : d.on = true → may = false) :
    Calls Tryz.prog 29 #[.pointer (some ⟨r, 0, none⟩), .pointer (some ⟨g, 0, none⟩), .agg #[.int .i64 k, .int .i64 n, .int .i64 cut, .int .i64 torn]] W fun e w' => ∃ d', M.Lv j d' ∧ SoundPost W r b g j ex inp d' e w' := by
  have hev := fun X : World => event_any hj ex k n cut torn hk hn X
  have hT := M.blowT_le (j := j) hm k n
  have hK := M.blowK_bd k
  have hl' := M.lv_do hj hl (M.blow_ev hj k n cut torn)
  have hsame := M.lv_same (e := M.blowE j k n cut torn) hl
  have hten := M.do_ten (d := d) (e := M.blowE j k n cut torn)
  have hdead := M.do_dead (d := d) (e := M.blowE j k n cut torn) (by show (1 : Int) ≤ (M.blowK k : Int); omega) (by show (M.blowK k : Int) ≤ 7; omega)
  have hawake := M.do_awake (d := d) (e := M.blowE j k n cut torn)
  have hdon := fun hne hor => M.do_on (d := d) (e := M.blowE j k n cut torn) hne (by show (1 : Int) ≤ (M.blowK k : Int); omega) (by show (M.blowK k : Int) ≤ 7; omega) hor
  have hconf := M.do_confirm (e := M.blowE j k n cut torn) hj hl
  have h7 := M.blow_seven (j := j) k n cut torn
  have hdo : M.doM d ⟨M.blowK k, M.blowN j k n, M.blowT j k n, cut, torn⟩ = M.doM d (M.blowE j k n cut torn) := rfl
  have ek : (M.blowE j k n cut torn).kind = (M.blowK k : Int) := rfl
  have ec : (M.blowE j k n cut torn).cut = cut := rfl
  generalize M.blowE j k n cut torn = E at *
  generalize hD : M.doM d E = D at *
  obtain ⟨d', ⟨er, ve, tx, ask⟩⟩ := D
  dsimp only at *
  rw [ec] at hten
  generalize M.blowK k = K at *
  generalize M.blowN j k n = N at *
  generalize M.blowT j k n = T at *
  have hsd := fun (kp2 may2 : Bool) (ht2 : may2 = false → M.upB j d' = kp2) (X : World) (hX : RunRel X r b j ex inp d') (hgX : X.heap[g]? = some (.cells #[.bool kp2, .bool may2] 58 (0, 0))) => sound_st hj hin hX hl' kp2 may2 hgX hgb hgr ht2
  have fin : ∀ {C : Ending → World → Prop}, (∀ e w', C e w' → SoundPost W r b g j ex inp d' e w') → ∀ {f : FuncId} {args : Array Value}, Calls Tryz.prog f args W C → Calls Tryz.prog f args W fun e w' => ∃ d', M.Lv j d' ∧ SoundPost W r b g j ex inp d' e w' := fun hC _ _ hh => hh.mono fun e w' he => ⟨d', hl', hC e w' he⟩
  cases hon : d.on with
  | false =>
    have hs := stat_not hon
    by_cases hk2 : K = 2
    · have hsm : M.upB j d' = M.upB j d := hsame (by rw [ek]; omega)
      by_cases he : er = 10
      · obtain ⟨ho', hc⟩ := hten he
        exact fin (fun e w' hh => hh) (blown_cut_boot h k n cut torn kp may d' K N T er ve tx ask 0 0 0 0 0 0 0 0 0 0 0 0 hev hT hdo hs (stat_not ho') hg hgb hk2 he hc (hsd kp may (fun hh => hsm.trans (ht hh))))
      · have ho' := hdon he (by rw [ek]; omega) (.inr ⟨hon, by rw [ek]; omega⟩)
        obtain ⟨a2, a3, a4, a5, a6, hs'⟩ := stat_yes ho'
        exact fin (fun e w' hh => hh) (blown_boot h k n cut torn kp may d' K N T er ve tx ask 0 0 0 0 0 0 _ a2 a3 a4 a5 a6 hev hT hdo hs hs' hg hgb hk2 he (hsd kp may (fun hh => hsm.trans (ht hh))))
    · have hd := hdead hon (by rw [ek]; omega)
      simp only [Prod.mk.injEq, M.Rp.mk.injEq] at hd
      obtain ⟨rfl, rfl, rfl, rfl, rfl⟩ := hd
      refine fin (fun e w' hh => ?_) (blown_dead h k n cut torn kp may d' K N T 8 0 ⟨#[]⟩ (-1) 0 0 0 0 0 0 0 0 0 0 0 0 hev hT hdo hs hs hg hgb hk2 rfl)
      obtain ⟨he, hr, hkg, ho⟩ := hh
      exact ⟨he, kp, may, hr, hkg, ho, ht, hom⟩
  | true =>
    obtain ⟨a2, a3, a4, a5, a6, hs⟩ := stat_yes hon
    by_cases hk2 : K = 2
    · have hd := hawake hon (by rw [ek]; omega)
      simp only [Prod.mk.injEq, M.Rp.mk.injEq] at hd
      obtain ⟨rfl, rfl, rfl, rfl, rfl⟩ := hd
      refine fin (fun e w' hh => ?_) (blown_awake h k n cut torn kp may d' K N T 9 0 ⟨#[]⟩ (-1) _ a2 a3 a4 a5 a6 _ a2 a3 a4 a5 a6 hev hT hdo hs hs hg hgb hk2 rfl)
      obtain ⟨he, hr, hkg, ho⟩ := hh
      exact ⟨he, kp, may, hr, hkg, ho, ht, hom⟩
    · by_cases hk7 : K = 7
      · by_cases hp : M.fld d.F 2 = 2
        · by_cases he : er = 10
          · obtain ⟨ho', hc⟩ := hten he
            exact fin (fun e w' hh => hh) (blown_cut_trial h k n cut torn kp may d' K N T er ve tx ask _ a2 a3 a4 a5 a6 0 0 0 0 0 0 hev hT hdo hs (stat_not ho') hg hgb hgr hk7 (by omega) he hc (hsd false true (fun hh => by cases hh)))
          · have ho' := hdon he (by rw [ek]; omega) (.inl ⟨hon, by rw [ek]; omega⟩)
            obtain ⟨b2, b3, b4, b5, b6, hs'⟩ := stat_yes ho'
            obtain ⟨he0, hu⟩ := hconf hon (by rw [ek]; omega) hp (h7 hk7).1 (h7 hk7).2 he
            exact fin (fun e w' hh => hh) (blown_trial h k n cut torn kp may d' K N T er ve tx ask _ a2 a3 a4 a5 a6 _ b2 b3 b4 b5 b6 hev hT hdo hs hs' hg hgb hgr hk7 (by omega) he0 (hsd true false (fun _ => hu)))
        · have hsm : M.upB j d' = M.upB j d := hsame (fun hh => hp hh.2)
          by_cases he : er = 10
          · obtain ⟨ho', hc⟩ := hten he
            exact fin (fun e w' hh => hh) (blown_cut_idle h k n cut torn kp may d' K N T er ve tx ask _ a2 a3 a4 a5 a6 0 0 0 0 0 0 hev hT hdo hs (stat_not ho') hg hgb hk7 (by omega) he hc (hsd kp may (fun hh => hsm.trans (ht hh))))
          · have ho' := hdon he (by rw [ek]; omega) (.inl ⟨hon, by rw [ek]; omega⟩)
            obtain ⟨b2, b3, b4, b5, b6, hs'⟩ := stat_yes ho'
            exact fin (fun e w' hh => hh) (blown_idle h k n cut torn kp may d' K N T er ve tx ask _ a2 a3 a4 a5 a6 _ b2 b3 b4 b5 b6 hev hT hdo hs hs' hg hgb hk7 (by omega) he (hsd kp may (fun hh => hsm.trans (ht hh))))
      · have hsm : M.upB j d' = M.upB j d := hsame (by rw [ek]; omega)
        by_cases he : er = 10
        · obtain ⟨ho', hc⟩ := hten he
          exact fin (fun e w' hh => hh) (blown_cut_else h k n cut torn kp may d' K N T er ve tx ask _ a2 a3 a4 a5 a6 0 0 0 0 0 0 hev hT hdo hs (stat_not ho') hg hgb hk2 hk7 he hc (hsd kp may (fun hh => hsm.trans (ht hh))))
        · by_cases hk1 : K = 1
          · obtain ⟨tb, b1, b2, b3, b4, b5, b6, hs'⟩ := statOf_shape d'
            exact fin (fun e w' hh => hh) (blown_off h k n cut torn kp may d' K N T er ve tx ask _ a2 a3 a4 a5 a6 b1 b2 b3 b4 b5 b6 tb hev hT hdo hs hs' hg hgb hk1 he (hsd kp may (fun hh => hsm.trans (ht hh))))
          · have ho' := hdon he (by rw [ek]; omega) (.inl ⟨hon, by rw [ek]; omega⟩)
            obtain ⟨b2, b3, b4, b5, b6, hs'⟩ := stat_yes ho'
            exact fin (fun e w' hh => hh) (blown_else h k n cut torn kp may d' K N T er ve tx ask _ a2 a3 a4 a5 a6 _ b2 b3 b4 b5 b6 hev hT hdo hs hs' hg hgb hk1 hk2 hk7 he (hsd kp may (fun hh => hsm.trans (ht hh))))
end
end Go.Proofs.YtjfmiomopfjecabGreat

/- A new image that is tried, and that nobody confirms: Rolled, Tries. -/
namespace Go.Proofs.YtjfmiomopfjecabGreat
open Go.RowKit Go.Lib

section
variable {W : World} {r b : Nat} {j : M.Job} {ex inp : ByteArray} {d : M.Dev}
set_option maxRecDepth 10000 in
set_option maxHeartbeats 1000000 in
/-- the new image is offered, comes over, and is on trial -/
theorem tried_st (hj : M.JobOk j) (hm : j.man.size ≤ maxLen) (hin : inp.size ≤ maxLen) (h : RunRel W r b j ex inp d) (hs : M.St j d 0 0 0 false) :
    Calls Tryz.prog 11 #[.pointer (some ⟨r, 0, none⟩)] W fun e w' => ∃ d', Goes W r b j ex inp d' e w' ∧ M.St j d' 2 3 0 false ∧ d'.age = 0 := by
  have HJ := hide hj
  have HM := hide hm
  have HIN := hide hin
  have HR1 := hide h
  have HS1 := hide hs
  have K := hide h.run
  have rule2 : ∀ (X : World) (o : Nat), X.heap[r]? = some (.cells (runC b j ex inp true) 32 (0, 0)) → X.cell? ⟨r, o, none⟩ = (runC b j ex inp true)[o]? := fun X o h => cell_in h o
  clear hj hm hin h hs
  have HOF := hide (fun (X : World) (hX : RunRel X r b j ex inp d) => offer_st (unhide HJ) (unhide HM) hX (unhide HS1) (by omega))
  go_enter Tryz.func11, Tryz.ntmps11
  go_wp2_with fail
  go_region_held3 (fun X => X.heap[r]? = some (.cells (runC b j ex inp true) 32 (0, 0))) (repeat (first | with_reducible exact hC2 | with_reducible exact unhide K | with_reducible refine drew_block ?_)) ((go_at_call 13; refine (unhide HOF _ ((unhide HR1).kept (Below.refl _ _).drew)).mono ?_; rintro y w2 ⟨d2, ⟨rfl, hr2, ho2⟩, hs2, hwt, hnx⟩; have hC2 := hr2.run))
  all_goals
    have HR2 := hide hr2
    have HO2 := hide ((Only.of (p := (· = b)) ((Below.refl W.heap.size W).drew)).trans ho2)
    obtain ⟨hx2, hf2⟩ := block_facts hr2.run
    clear hr2 ho2 hwt hnx hC2 HOF HS1 HR1 K rule2
    try clear hHeld
    have HC7 := hide (fed_st (unhide HJ) (unhide HR2) hs2)
    go_wp2_with fail
    refine (unhide HC7).mono ?_
    rintro e w7 ⟨d7, tr7, th7, ⟨rfl, hr7, ho7⟩, hs7, ha7⟩
    have HR7 := hide hr7
    have HO7 := hide ((unhide HO2).trans ho7)
    obtain ⟨hx7, hf7⟩ := block_facts hr7.run
    clear hr7 ho7 HC7 HR2 HO2 hx2 hf2
    have HC8 := hide (install_st (unhide HJ) (unhide HR7) hs7 ha7)
    go_wp2_with fail
    refine (unhide HC8).mono ?_
    rintro e w8 ⟨d8, ⟨rfl, hr8, ho8⟩, hs8, hage⟩
    have HR8 := hide hr8
    have HO8 := hide ((unhide HO7).trans ho8)
    obtain ⟨hx8, hf8⟩ := block_facts hr8.run
    clear hr8 ho8 HC8 HR7 HO7 hx7 hf7
    clear ha7 hs7
    have HC9 := hide (phase_st (unhide HR8) hs8 (kv := j.base) (by simp))
    go_wp2_with fail
    refine (unhide HC9).mono ?_
    rintro e w9 ⟨rfl, hb9⟩
    have HR9 := hide ((unhide HR8).kept hb9)
    have HO9 := hide ((unhide HO8).trans (Only.of hb9))
    obtain ⟨hx9, hf9⟩ := block_facts (unhide HR9).run
    clear HC9 hb9 HR8 HO8 hx8 hf8
    have HC10 := hide (serves_st (unhide HJ) (unhide HR9) hs8 (unhide HIN))
    rw [show M.verP j 2 false = j.up from by simp [M.verP]] at HC10
    go_wp2_with fail
    refine (unhide HC10).mono ?_
    rintro e w10 ⟨rfl, hr10, ho10⟩
    have HR10 := hide hr10
    have HO10 := hide ((unhide HO9).trans ho10)
    obtain ⟨hx10, hf10⟩ := block_facts hr10.run
    clear hr10 ho10 HC10 HR9 HO9 hx9 hf9
    go_wp2
    exact bodyPost_end (v := .tuple #[]) (by simp [results, Tryz.results11, go_sem]) rfl ⟨d8, ⟨rfl, unhide HR10, unhide HO10⟩, hs8, hage⟩
end
set_option maxRecDepth 10000 in
set_option maxHeartbeats 2000000 in
theorem tries_any {W : World} {c : Chg} {j : M.Job} {ex inp : ByteArray} 
    (hj : M.JobOk j) (hm : j.man.size ≤ maxLen) (hin : inp.size ≤ maxLen)
    (hbg : ∀ X : World, Calls Tryz.prog 10 #[chgV c, .string inp] X fun e w' => Begun X j ex inp e w') :
    Calls Tryz.prog 4 #[chgV c, .string inp] W fun e w' => e = .returned (.bool true) ∧ Below W.heap.size W w' := by
  have HJ := hide hj
  have HM := hide hm
  have HIN := hide hin
  have HBG := hide hbg
  clear hj hm hin hbg
  go_enter Tryz.func4, Tryz.ntmps4
  go_wp2_with fail
  refine (unhide HBG _).mono ?_
  rintro e w1 ⟨r, b, d1, rfl, hr1, hs1, hb1, hge1, hge2⟩
  have hbW := ((Below.refl W.heap.size W).alloc (Nat.le_refl _) (.cells #[.int .i64 c.i1, .int .i64 c.o1, .string c.t1, .string c.s1, .int .i64 c.i2, .int .i64 c.o2, .string c.t2, .string c.s2, .string c.key, .int .i64 c.base, .int .i64 c.up, .bool c.diffed, .bool c.shown, .string c.ask] 25)).trans (hb1.mono (by simp))
  have hW1 := hbW.size
  have HBW := hide hbW
  have hge : W.heap.size ≤ b := by simp at hge2; omega
  have HR1 := hide hr1
  have HO1 := hide (Only.of (p := (· = b)) (Below.refl w1.heap.size w1))
  obtain ⟨hx1, hf1⟩ := block_facts hr1.run
  clear hr1 hb1 hge1 hge2 hbW HBG
  have HC2 := hide (tried_st (unhide HJ) (unhide HM) (unhide HIN) (unhide HR1) hs1)
  go_wp2_with fail
  refine (unhide HC2).mono ?_
  rintro e w2 ⟨d2, ⟨rfl, hr2, ho2⟩, hs2, hage2⟩
  have HR2 := hide hr2
  have HO2 := hide ((unhide HO1).trans ho2)
  obtain ⟨hx2, hf2⟩ := block_facts hr2.run
  clear hr2 ho2 HC2 HR1 HO1 hx1 hf1
  clear hs1 hage2
  go_wp2_with fail
  have HS2 := hide hs2
  clear hs2
  go_loopw [6] (fun i wr => ∃ (k : Nat) (d' : M.Dev), 1 ≤ k ∧ k ≤ 4 ∧ i = .int .i64 k ∧ RunRel wr r b j ex inp d' ∧ Only (· = b) w1 wr ∧ M.St j d' 2 (4 - k) 0 false) (fun i _ => 4 - (intOf i).toNat)
  case atStart => exact ⟨1, d2, by omega, by omega, rfl, unhide HR2, unhide HO2, unhide HS2⟩
  case round =>
    clear HR2 HO2 HS2 hx2 hf2
    obtain ⟨k, d3, hk1, hk4, rfl, hr3, ho3, hs3⟩ := hrel
    have HR3 := hide hr3
    have HO3 := hide ho3
    obtain ⟨hx3, hf3⟩ := block_facts hr3.run
    clear hr3 ho3
    have hk : k = 1 ∨ k = 2 ∨ k = 3 ∨ k = 4 := by omega
    clear hk1 hk4
    rcases hk with rfl | rfl | rfl | rfl
    · have HC4 := hide (again_st (unhide HJ) (unhide HR3) hs3 (ph' := 2) (tr' := 2) (th' := 0) (by simp))
      rw [show M.verP j 2 false = j.up from by simp [M.verP]] at HC4
      go_wp2_with fail
      refine (unhide HC4).mono ?_
      rintro e w4 ⟨d4, ⟨rfl, hr4, ho4⟩, hs4, hw4, hn4, ha4⟩
      have HR4 := hide hr4
      have HO4 := hide ((unhide HO3).trans ho4)
      obtain ⟨hx4, hf4⟩ := block_facts hr4.run
      clear hr4 ho4 HC4 HR3 HO3 hx3 hf3
      clear hw4 hn4 ha4
      have HC5 := hide (phase_st (unhide HR4) hs4 (kv := j.base) (by simp))
      go_wp2_with fail
      refine (unhide HC5).mono ?_
      rintro e w5 ⟨rfl, hb5⟩
      have HR5 := hide ((unhide HR4).kept hb5)
      have HO5 := hide ((unhide HO4).trans (Only.of hb5))
      obtain ⟨hx5, hf5⟩ := block_facts (unhide HR5).run
      clear HC5 hb5 HR4 HO4 hx4 hf4
      go_wp2
      go_roundw
      case rel => exact ⟨2, d4, by omega, by omega, by go_num, unhide HR5, unhide HO5, hs4⟩
      case measure => simp [intOf]
    · have HC4 := hide (again_st (unhide HJ) (unhide HR3) hs3 (ph' := 2) (tr' := 1) (th' := 0) (by simp))
      rw [show M.verP j 2 false = j.up from by simp [M.verP]] at HC4
      go_wp2_with fail
      refine (unhide HC4).mono ?_
      rintro e w4 ⟨d4, ⟨rfl, hr4, ho4⟩, hs4, hw4, hn4, ha4⟩
      have HR4 := hide hr4
      have HO4 := hide ((unhide HO3).trans ho4)
      obtain ⟨hx4, hf4⟩ := block_facts hr4.run
      clear hr4 ho4 HC4 HR3 HO3 hx3 hf3
      clear hw4 hn4 ha4
      have HC5 := hide (phase_st (unhide HR4) hs4 (kv := j.base) (by simp))
      go_wp2_with fail
      refine (unhide HC5).mono ?_
      rintro e w5 ⟨rfl, hb5⟩
      have HR5 := hide ((unhide HR4).kept hb5)
      have HO5 := hide ((unhide HO4).trans (Only.of hb5))
      obtain ⟨hx5, hf5⟩ := block_facts (unhide HR5).run
      clear HC5 hb5 HR4 HO4 hx4 hf4
      go_wp2
      go_roundw
      case rel => exact ⟨3, d4, by omega, by omega, by go_num, unhide HR5, unhide HO5, hs4⟩
      case measure => simp [intOf]
    · have HC4 := hide (again_st (unhide HJ) (unhide HR3) hs3 (ph' := 2) (tr' := 0) (th' := 0) (by simp))
      rw [show M.verP j 2 false = j.up from by simp [M.verP]] at HC4
      go_wp2_with fail
      refine (unhide HC4).mono ?_
      rintro e w4 ⟨d4, ⟨rfl, hr4, ho4⟩, hs4, hw4, hn4, ha4⟩
      have HR4 := hide hr4
      have HO4 := hide ((unhide HO3).trans ho4)
      obtain ⟨hx4, hf4⟩ := block_facts hr4.run
      clear hr4 ho4 HC4 HR3 HO3 hx3 hf3
      clear hw4 hn4 ha4
      have HC5 := hide (phase_st (unhide HR4) hs4 (kv := j.base) (by simp))
      go_wp2_with fail
      refine (unhide HC5).mono ?_
      rintro e w5 ⟨rfl, hb5⟩
      have HR5 := hide ((unhide HR4).kept hb5)
      have HO5 := hide ((unhide HO4).trans (Only.of hb5))
      obtain ⟨hx5, hf5⟩ := block_facts (unhide HR5).run
      clear HC5 hb5 HR4 HO4 hx4 hf4
      go_wp2
      go_roundw
      case rel => exact ⟨4, d4, by omega, by omega, by go_num, unhide HR5, unhide HO5, hs4⟩
      case measure => simp [intOf]
    · have HC6 := hide (serves_st (unhide HJ) (unhide HR3) hs3 (unhide HIN))
      rw [show M.verP j 2 false = j.up from by simp [M.verP]] at HC6
      go_wp2_with fail
      refine (unhide HC6).mono ?_
      rintro e w6 ⟨rfl, hr6, ho6⟩
      have HR6 := hide hr6
      have HO6 := hide ((unhide HO3).trans ho6)
      obtain ⟨hx6, hf6⟩ := block_facts hr6.run
      clear hr6 ho6 HC6 HR3 HO3 hx3 hf3
      have HC7 := hide (again_st (unhide HJ) (unhide HR6) hs3 (ph' := 0) (tr' := 0) (th' := 0) (by simp))
      rw [show M.verP j 0 false = j.base from by simp [M.verP]] at HC7
      go_wp2_with fail
      refine (unhide HC7).mono ?_
      rintro e w7 ⟨d7, ⟨rfl, hr7, ho7⟩, hs7, hw7, hn7, ha7⟩
      have HR7 := hide hr7
      have HO7 := hide ((unhide HO6).trans ho7)
      obtain ⟨hx7, hf7⟩ := block_facts hr7.run
      clear hr7 ho7 HC7 HR6 HO6 hx6 hf6
      clear hw7 hn7 ha7
      have HC8 := hide (phase_st (unhide HR7) hs7 (kv := j.base) (by simp))
      go_wp2_with fail
      refine (unhide HC8).mono ?_
      rintro e w8 ⟨rfl, hb8⟩
      have HR8 := hide ((unhide HR7).kept hb8)
      have HO8 := hide ((unhide HO7).trans (Only.of hb8))
      obtain ⟨hx8, hf8⟩ := block_facts (unhide HR8).run
      clear HC8 hb8 HR7 HO7 hx7 hf7
      have HC9 := hide (serves_st (unhide HJ) (unhide HR8) hs7 (unhide HIN))
      rw [show M.verP j 0 false = j.base from by simp [M.verP]] at HC9
      go_wp2_with fail
      refine (unhide HC9).mono ?_
      rintro e w9 ⟨rfl, hr9, ho9⟩
      have HR9 := hide hr9
      have HO9 := hide ((unhide HO8).trans ho9)
      obtain ⟨hx9, hf9⟩ := block_facts hr9.run
      clear hr9 ho9 HC9 HR8 HO8 hx8 hf8
      have HC10 := hide (tried_st (unhide HJ) (unhide HM) (unhide HIN) (unhide HR9) hs7)
      go_wp2_with fail
      refine (unhide HC10).mono ?_
      rintro e w10 ⟨d10, ⟨rfl, hr10, ho10⟩, hs10, hage10⟩
      have HR10 := hide hr10
      have HO10 := hide ((unhide HO9).trans ho10)
      obtain ⟨hx10, hf10⟩ := block_facts hr10.run
      clear hr10 ho10 HC10 HR9 HO9 hx9 hf9
      have HB := hide ((unhide HBW).trans ((unhide HO10).below (B := W.heap.size) hW1 fun q hq => by rw [hq]; exact hge))
      go_wp2
      go_ret
      exact ⟨rfl, unhide HB⟩
set_option maxRecDepth 10000 in
set_option maxHeartbeats 2000000 in
theorem rolled_any {W : World} {c : Chg} {j : M.Job} {ex inp : ByteArray} {z : Int} (hz : -9223372036854775808 ≤ z ∧ z ≤ 9223372036854775807)
    (hj : M.JobOk j) (hm : j.man.size ≤ maxLen) (hin : inp.size ≤ maxLen)
    (hbg : ∀ X : World, Calls Tryz.prog 10 #[chgV c, .string inp] X fun e w' => Begun X j ex inp e w') :
    Calls Tryz.prog 3 #[chgV c, .int .i64 z, .string inp] W fun e w' => e = .returned (.bool true) ∧ Below W.heap.size W w' := by
  have HJ := hide hj
  have HM := hide hm
  have HIN := hide hin
  have HBG := hide hbg
  clear hj hm hin hbg
  have HPK := hide (fun X : World => kPick_any z 5 X hz.1 hz.2 (by omega) (by omega))
  have hpk : M.pk z 5 < 5 := M.pk_lt _ _ (by omega)
  generalize M.pk z 5 = K at *
  clear hz
  go_enter Tryz.func3, Tryz.ntmps3
  go_wp2_with fail
  refine (unhide HBG _).mono ?_
  rintro e w1 ⟨r, b, d1, rfl, hr1, hs1, hb1, hge1, hge2⟩
  have hbW := ((Below.refl W.heap.size W).alloc (Nat.le_refl _) (.cells #[.int .i64 c.i1, .int .i64 c.o1, .string c.t1, .string c.s1, .int .i64 c.i2, .int .i64 c.o2, .string c.t2, .string c.s2, .string c.key, .int .i64 c.base, .int .i64 c.up, .bool c.diffed, .bool c.shown, .string c.ask] 25)).trans (hb1.mono (by simp))
  have hW1 := hbW.size
  have HBW := hide hbW
  have hge : W.heap.size ≤ b := by simp at hge2; omega
  have HR1 := hide hr1
  have HO1 := hide (Only.of (p := (· = b)) (Below.refl w1.heap.size w1))
  obtain ⟨hx1, hf1⟩ := block_facts hr1.run
  clear hr1 hb1 hge1 hge2 hbW HBG
  have HC2 := hide (tried_st (unhide HJ) (unhide HM) (unhide HIN) (unhide HR1) hs1)
  go_wp2_with fail
  refine (unhide HC2).mono ?_
  rintro e w2 ⟨d2, ⟨rfl, hr2, ho2⟩, hs2, hage2⟩
  have HR2 := hide hr2
  have HO2 := hide ((unhide HO1).trans ho2)
  obtain ⟨hx2, hf2⟩ := block_facts hr2.run
  clear hr2 ho2 HC2 HR1 HO1 hx1 hf1
  clear hs1
  have HS2 := hide hs2
  have HA2 := hide hage2
  clear hs2 hage2
  go_wp2_with fail
  refine (unhide HPK _).mono ?_
  rintro e _ ⟨rfl, rfl⟩
  go_wp2_with fail
  go_loopw [8] (fun i wr => ∃ (k q : Nat) (d' : M.Dev), k + q = K ∧ i = .int .i64 q ∧ RunRel wr r b j ex inp d' ∧ Only (· = b) w1 wr ∧ M.St j d' 2 3 0 false ∧ d'.age = k) (fun i _ => (intOf i).toNat)
  case atStart => exact ⟨0, K, d2, by omega, rfl, unhide HR2, unhide HO2, unhide HS2, unhide HA2⟩
  case round =>
    clear HR2 HO2 HS2 HA2 hx2 hf2
    obtain ⟨k, q, d3, hkq, rfl, hr3, ho3, hs3, ha3⟩ := hrel
    have HR3 := hide hr3
    have HO3 := hide ho3
    have HA3 := hide ha3
    obtain ⟨hx3, hf3⟩ := block_facts hr3.run
    clear hr3 ho3 ha3
    cases q with
    | succ q =>
      have hq : ((q + 1 : Nat) : Int) - 1 = (q : Int) := by omega
      have hq0 : (0 : Int) < ((q + 1 : Nat) : Int) := by omega
      have HQ : Hid (((q + 1 : Nat) : Int) - 1 = (q : Int)) := hq
      have HC4 := hide (older_st (unhide HJ) (unhide HR3) hs3 (by rw [HA3.out]; omega))
      go_wp2_with fail
      refine (unhide HC4).mono ?_
      rintro e w4 ⟨d4, ⟨rfl, hr4, ho4⟩, hs4, ha4⟩
      have HR4 := hide hr4
      have HO4 := hide ((unhide HO3).trans ho4)
      obtain ⟨hx4, hf4⟩ := block_facts hr4.run
      clear hr4 ho4 HC4 HR3 HO3 hx3 hf3
      have HA4 : Hid (d4.age = k + 1) := ha4.trans (by rw [HA3.out])
      clear ha4
      go_wp2
      go_roundw
      case rel => exact ⟨k + 1, q, d4, by omega, by go_num, unhide HR4, unhide HO4, hs4, unhide HA4⟩
      case measure => simp [intOf]
    | zero =>
      have HC4 := hide (again_st (unhide HJ) (unhide HR3) hs3 (ph' := 2) (tr' := 2) (th' := 0) (by simp))
      rw [show M.verP j 2 false = j.up from by simp [M.verP]] at HC4
      go_wp2_with fail
      refine (unhide HC4).mono ?_
      rintro e w4 ⟨d4, ⟨rfl, hr4, ho4⟩, hs4, hw4, hn4, ha4⟩
      have HR4 := hide hr4
      have HO4 := hide ((unhide HO3).trans ho4)
      obtain ⟨hx4, hf4⟩ := block_facts hr4.run
      clear hr4 ho4 HC4 HR3 HO3 hx3 hf3
      have HS4 := hide hs4
      have HA4 := hide ha4
      clear hw4 hn4 ha4 hs4 hs3 HA3 hkq
      go_wp2_with fail
      go_loopw [9] (fun i wr => ∃ (k : Nat) (d' : M.Dev), 1 ≤ k ∧ k ≤ 5 ∧ i = .int .i64 k ∧ RunRel wr r b j ex inp d' ∧ Only (· = b) w1 wr ∧ M.St j d' 2 2 0 false ∧ d'.age + 1 = k) (fun i _ => 5 - (intOf i).toNat)
      case atStart => exact ⟨1, d4, by omega, by omega, rfl, unhide HR4, unhide HO4, unhide HS4, by rw [HA4.out]⟩
      case round =>
        clear HR4 HO4 HS4 HA4 hx4 hf4
        obtain ⟨k, d5, hk1, hk5, rfl, hr5, ho5, hs5, ha5⟩ := hrel
        have HR5 := hide hr5
        have HO5 := hide ho5
        have HA5 := hide ha5
        obtain ⟨hx5, hf5⟩ := block_facts hr5.run
        clear hr5 ho5 ha5
        by_cases hlt : k < 5
        · have HC6 := hide (older_st (unhide HJ) (unhide HR5) hs5 (by rw [HA5.out]; exact hlt))
          go_wp2_with fail
          refine (unhide HC6).mono ?_
          rintro e w6 ⟨d6, ⟨rfl, hr6, ho6⟩, hs6, ha6⟩
          have HR6 := hide hr6
          have HO6 := hide ((unhide HO5).trans ho6)
          obtain ⟨hx6, hf6⟩ := block_facts hr6.run
          clear hr6 ho6 HC6 HR5 HO5 hx5 hf5
          have HA6 : Hid (d6.age + 1 = k + 1) := by show _ = _; rw [ha6, HA5.out]
          clear ha6
          go_wp2
          go_roundw
          case rel => exact ⟨k + 1, d6, by omega, by omega, by go_num, unhide HR6, unhide HO6, hs6, unhide HA6⟩
          case measure => simp [intOf]; omega
        · have hk : k = 5 := by omega
          subst hk
          have HG5 : Hid (5 ≤ d5.age + 1) := by show _ ≤ _; rw [HA5.out]; omega
          clear hk1 hk5 hlt HA5
          have HC6 := hide (serves_st (unhide HJ) (unhide HR5) hs5 (unhide HIN))
          rw [show M.verP j 2 false = j.up from by simp [M.verP]] at HC6
          go_wp2_with fail
          refine (unhide HC6).mono ?_
          rintro e w6 ⟨rfl, hr6, ho6⟩
          have HR6 := hide hr6
          have HO6 := hide ((unhide HO5).trans ho6)
          obtain ⟨hx6, hf6⟩ := block_facts hr6.run
          clear hr6 ho6 HC6 HR5 HO5 hx5 hf5
          have HC7 := hide (over_st (unhide HJ) (unhide HR6) hs5 (unhide HG5))
          go_wp2_with fail
          refine (unhide HC7).mono ?_
          rintro e w7 ⟨d7, ⟨rfl, hr7, ho7⟩, hs7⟩
          have HR7 := hide hr7
          have HO7 := hide ((unhide HO6).trans ho7)
          obtain ⟨hx7, hf7⟩ := block_facts hr7.run
          clear hr7 ho7 HC7 HR6 HO6 hx6 hf6
          have HC8 := hide (phase_st (unhide HR7) hs7 (kv := j.base) (by simp))
          go_wp2_with fail
          refine (unhide HC8).mono ?_
          rintro e w8 ⟨rfl, hb8⟩
          have HR8 := hide ((unhide HR7).kept hb8)
          have HO8 := hide ((unhide HO7).trans (Only.of hb8))
          obtain ⟨hx8, hf8⟩ := block_facts (unhide HR8).run
          clear HC8 hb8 HR7 HO7 hx7 hf7
          have HC9 := hide (serves_st (unhide HJ) (unhide HR8) hs7 (unhide HIN))
          rw [show M.verP j 0 false = j.base from by simp [M.verP]] at HC9
          go_wp2_with fail
          refine (unhide HC9).mono ?_
          rintro e w9 ⟨rfl, hr9, ho9⟩
          have HR9 := hide hr9
          have HO9 := hide ((unhide HO8).trans ho9)
          obtain ⟨hx9, hf9⟩ := block_facts hr9.run
          clear hr9 ho9 HC9 HR8 HO8 hx8 hf8
          have HC10 := hide (tried_st (unhide HJ) (unhide HM) (unhide HIN) (unhide HR9) hs7)
          go_wp2_with fail
          refine (unhide HC10).mono ?_
          rintro e w10 ⟨d10, ⟨rfl, hr10, ho10⟩, hs10, hage10⟩
          have HR10 := hide hr10
          have HO10 := hide ((unhide HO9).trans ho10)
          obtain ⟨hx10, hf10⟩ := block_facts hr10.run
          clear hr10 ho10 HC10 HR9 HO9 hx9 hf9
          have HS10 := hide hs10
          have HA10 := hide hage10
          clear hs10 hage10 hs7 HG5 hs5
          go_wp2_with fail
          go_loopw [10] (fun i wr => ∃ (k : Nat) (d' : M.Dev), 1 ≤ k ∧ k ≤ 5 ∧ i = .int .i64 k ∧ RunRel wr r b j ex inp d' ∧ Only (· = b) w1 wr ∧ M.St j d' 2 3 0 false ∧ d'.age + 1 = k) (fun i _ => 5 - (intOf i).toNat)
          case atStart => exact ⟨1, d10, by omega, by omega, rfl, unhide HR10, unhide HO10, unhide HS10, by rw [HA10.out]⟩
          case round =>
            clear HR10 HO10 HS10 HA10 hx10 hf10
            obtain ⟨k, d11, hk1, hk5, rfl, hr11, ho11, hs11, ha11⟩ := hrel
            have HR11 := hide hr11
            have HO11 := hide ho11
            have HA11 := hide ha11
            obtain ⟨hx11, hf11⟩ := block_facts hr11.run
            clear hr11 ho11 ha11
            by_cases hlt : k < 5
            · have HC12 := hide (older_st (unhide HJ) (unhide HR11) hs11 (by rw [HA11.out]; exact hlt))
              go_wp2_with fail
              refine (unhide HC12).mono ?_
              rintro e w12 ⟨d12, ⟨rfl, hr12, ho12⟩, hs12, ha12⟩
              have HR12 := hide hr12
              have HO12 := hide ((unhide HO11).trans ho12)
              obtain ⟨hx12, hf12⟩ := block_facts hr12.run
              clear hr12 ho12 HC12 HR11 HO11 hx11 hf11
              have HA12 : Hid (d12.age + 1 = k + 1) := by show _ = _; rw [ha12, HA11.out]
              clear ha12
              go_wp2
              go_roundw
              case rel => exact ⟨k + 1, d12, by omega, by omega, by go_num, unhide HR12, unhide HO12, hs12, unhide HA12⟩
              case measure => simp [intOf]; omega
            · have hk : k = 5 := by omega
              subst hk
              have HG11 : Hid (5 ≤ d11.age + 1) := by show _ ≤ _; rw [HA11.out]; omega
              clear hk1 hk5 hlt HA11
              have HC12 := hide (over_st (unhide HJ) (unhide HR11) hs11 (unhide HG11))
              go_wp2_with fail
              refine (unhide HC12).mono ?_
              rintro e w12 ⟨d12, ⟨rfl, hr12, ho12⟩, hs12⟩
              have HR12 := hide hr12
              have HO12 := hide ((unhide HO11).trans ho12)
              obtain ⟨hx12, hf12⟩ := block_facts hr12.run
              clear hr12 ho12 HC12 HR11 HO11 hx11 hf11
              have HB := hide ((unhide HBW).trans ((unhide HO12).below (B := W.heap.size) hW1 fun q hq => by rw [hq]; exact hge))
              go_wp2
              go_ret
              exact ⟨rfl, unhide HB⟩
end Go.Proofs.YtjfmiomopfjecabGreat

/- Texts laid together: KeepOnward, KeepSurvive, KeepOwn2. -/
import Derived.Test.YtjfmiomopfjecabGreatXb
import Derived.Test.YtjfmiomopfjecabGreatXc
import Derived.Test.YtjfmiomopfjecabGreatWk
import Derived.Test.YtjfmiomopfjecabGreatWa
import Derived.Test.YtjfmiomopfjecabGreatWb
import Derived.Test.YtjfmiomopfjecabGreatWc
import Derived.Test.YtjfmiomopfjecabGreatWd
import Derived.Test.YtjfmiomopfjecabGreatWe
import Derived.Test.YtjfmiomopfjecabGreatWf
import Derived.Test.YtjfmiomopfjecabGreatWg
import Derived.Test.YtjfmiomopfjecabGreatWh
import Derived.Test.YtjfmiomopfjecabGreatWi
import Derived.Test.YtjfmiomopfjecabGreatWj
import Derived.Test.YtjfmiomopfjecabGreatWl
import Derived.Test.YtjfmiomopfjecabGreatWm
import Derived.Test.YtjfmiomopfjecabGreatXa
/- One step towards the end, now that the power does not fail any more. -/
namespace Go.Proofs.YtjfmiomopfjecabGreat
open Go.RowKit Go.Lib

section
variable {W : World} {r b : Nat} {j : M.Job} {ex inp : ByteArray} {d : M.Dev}
/-- so a step leaves a change: nearer to its end -/
def Steps (W : World) (r b : Nat) (j : M.Job) (ex inp : ByteArray) (d : M.Dev) (e : Ending) (w' : World) : Prop :=
  ∃ d', Goes W r b j ex inp d' e w' ∧ M.Lv j d' ∧ (M.rank j d' + 1 ≤ M.rank j d ∨ M.rank j d' = 0)
set_option maxRecDepth 10000 in
set_option maxHeartbeats 1000000 in
theorem onward_done (h : RunRel W r b j ex inp d) (a1 a2 a3 a5 a6 : Int) (hst : statOf d = .agg #[.bool true, .int .i64 a1, .int .i64 a2, .int .i64 a3, .int .i64 j.up, .int .i64 a5, .int .i64 a6]) :
    Calls Tryz.prog 30 #[.pointer (some ⟨r, 0, none⟩)] W fun e w' => Goes W r b j ex inp d e w' := by
  have HSS := hide (runStatus_any h)
  rw [hst] at HSS
  have HR := hide h
  have hlt := h.lt
  clear h hst
  go_enter Tryz.func30, Tryz.ntmps30
  go_wp2_with fail
  refine (unhide HSS).mono ?_
  rintro e w1 ⟨rfl, hb1⟩
  have HR1 := hide ((unhide HR).kept hb1)
  have HO1 := hide (Only.of (p := (· = b)) hb1)
  obtain ⟨hx1, hf1⟩ := block_facts (unhide HR1).run
  have hs1 := hb1.size
  clear hb1 HR HSS
  have l1 : r < w1.heap.size := (by omega); have n1 : ¬ r = w1.heap.size := (by omega)
  go_wp2_with fail
  go_quiet (fail)
  go_wp2
  exact bodyPost_ret (v := .tuple #[]) (by simp [results, Tryz.results30, go_sem]) rfl ⟨rfl, (unhide HR1).kept (below_drewN ((Below.refl _ _).alloc (Nat.le_refl _) _) _), (unhide HO1).trans (Only.of (below_drewN ((Below.refl _ _).alloc (Nat.le_refl _) _) _))⟩
set_option maxRecDepth 10000 in
set_option maxHeartbeats 1000000 in
theorem onward_boot (h : RunRel W r b j ex inp d) (hst : statOf d = .agg #[.bool false, .int .i64 0, .int .i64 0, .int .i64 0, .int .i64 0, .int .i64 0, .int .i64 0]) (d' : M.Dev) (ve : Nat) (tx : ByteArray) (ask : Int) (hdo : M.doM d ⟨2, 0, ⟨#[]⟩, -1, 0⟩ = (d', ⟨0, ve, tx, ask⟩)) :
    Calls Tryz.prog 30 #[.pointer (some ⟨r, 0, none⟩)] W fun e w' => Goes W r b j ex inp d' e w' := by
  have HSS := hide (runStatus_any h)
  rw [hst] at HSS
  have HDO : Hid (∀ X : World, RunRel X r b j ex inp d → Calls Tryz.prog 34 #[.pointer (some ⟨r, 0, none⟩), evV 2 0 ⟨#[]⟩ (-1) 0] X fun y w' => y = .returned (.agg #[.int .i64 0, .int .i64 (ve : Nat), .string tx, .int .i64 ask]) ∧ RunRel w' r b j ex inp d' ∧ Only (· = b) X w') := by
    intro X hX
    refine (runDo_any hX ⟨2, 0, ⟨#[]⟩, -1, 0⟩ nought_le).mono fun y w' hp => ?_
    have hrel := hX.does hp
    obtain ⟨hy, _, ho⟩ := hp
    rw [hdo] at hrel hy
    exact ⟨hy, hrel, ho⟩
  have HR := hide h
  have hlt := h.lt
  clear h hst hdo
  go_enter Tryz.func30, Tryz.ntmps30
  go_wp2_with fail
  refine (unhide HSS).mono ?_
  rintro e w1 ⟨rfl, hb1⟩
  have HR1 := hide ((unhide HR).kept hb1)
  have HO1 := hide (Only.of (p := (· = b)) hb1)
  obtain ⟨hx1, hf1⟩ := block_facts (unhide HR1).run
  have hs1 := hb1.size
  clear hb1 HR HSS
  have l1 : r < w1.heap.size := (by omega); have n1 : ¬ r = w1.heap.size := (by omega)
  go_wp2_with fail
  go_quiet (fail)
  go_wp2_with fail
  refine (unhide HDO _ ((unhide HR1).kept (below_drewN ((Below.refl _ _).alloc (Nat.le_refl _) _) _))).mono ?_
  rintro e w2 ⟨rfl, hr2, ho2⟩
  have HR2 := hide hr2
  have HO2 := hide (((unhide HO1).trans (Only.of (below_drewN ((Below.refl _ _).alloc (Nat.le_refl _) _) _))).trans ho2)
  clear hr2 ho2 HR1 HO1 hx1 hf1 HDO
  go_wp2_with fail
  refine (must_true _ _).mono ?_
  rintro e _ ⟨rfl, rfl⟩
  go_wp2
  exact bodyPost_end (v := .tuple #[]) (by simp [results, Tryz.results30, go_sem]) rfl ⟨rfl, (unhide HR2).kept ((Below.refl _ _).alloc (Nat.le_refl _) _), (unhide HO2).trans (Only.of ((Below.refl _ _).alloc (Nat.le_refl _) _))⟩
set_option maxRecDepth 10000 in
set_option maxHeartbeats 1000000 in
theorem onward_offer (h : RunRel W r b j ex inp d) (hlu : ¬ (j.base : Int) = (j.up : Int)) (a2 a3 a5 a6 : Int) (hst : statOf d = .agg #[.bool true, .int .i64 0, .int .i64 a2, .int .i64 a3, .int .i64 j.base, .int .i64 a5, .int .i64 a6]) (P : M.Dev → Prop)
    (hgo : ∀ X : World, RunRel X r b j ex inp d → Calls Tryz.prog 13 #[.pointer (some ⟨r, 0, none⟩), .int .i64 5, .int .i64 0, .string j.man, .int .i64 j.base] X fun e w' => ∃ d', Goes X r b j ex inp d' e w' ∧ P d') :
    Calls Tryz.prog 30 #[.pointer (some ⟨r, 0, none⟩)] W fun e w' => ∃ d', Goes W r b j ex inp d' e w' ∧ P d' := by
  have HSS := hide (runStatus_any h)
  rw [hst] at HSS
  have hbq : ((j.base : Int) == (j.up : Int)) = false := by simp [hlu]
  have HOF := hide hgo
  clear hgo
  have HR := hide h
  have hlt := h.lt
  clear h hst
  go_enter Tryz.func30, Tryz.ntmps30
  go_wp2_with fail
  refine (unhide HSS).mono ?_
  rintro e w1 ⟨rfl, hb1⟩
  have HR1 := hide ((unhide HR).kept hb1)
  have HO1 := hide (Only.of (p := (· = b)) hb1)
  obtain ⟨hx1, hf1⟩ := block_facts (unhide HR1).run
  have hs1 := hb1.size
  clear hb1 HR HSS
  have l1 : r < w1.heap.size := (by omega); have n1 : ¬ r = w1.heap.size := (by omega)
  go_wp2_with fail
  go_quiet (fail)
  go_wp2_with fail
  refine gen_world (Q := Code.wp Tryz.prog _ _ _) (fun Z => RunRel Z r b j ex inp d ∧ Only (· = b) W Z) ⟨(unhide HR1).kept (below_drewN ((Below.refl _ _).alloc (Nat.le_refl _) _) _), (unhide HO1).trans (Only.of (below_drewN ((Below.refl _ _).alloc (Nat.le_refl _) _) _))⟩ ?_
  rintro w2 ⟨hr2, ho2⟩
  have K := hide hr2.run
  have HR2 := hide hr2
  have HO2 := hide ho2
  have rule2 : ∀ (X : World) (o : Nat), X.heap[r]? = some (.cells (runC b j ex inp true) 32 (0, 0)) → X.cell? ⟨r, o, none⟩ = (runC b j ex inp true)[o]? := fun X o h => cell_in h o
  clear hr2 ho2 HR1 HO1 hx1 hf1
  go_region_held3 (fun X => X.heap[r]? = some (.cells (runC b j ex inp true) 32 (0, 0))) (repeat (first | with_reducible exact hC2 | with_reducible exact unhide K | with_reducible refine drew_block ?_)) ((go_at_call 13; refine (unhide HOF _ ((unhide HR2).kept (Below.refl _ _).drew)).mono ?_; rintro y w3 ⟨d3, ⟨rfl, hr3, ho3⟩, hp3⟩; have hC2 := hr3.run))
  all_goals
    have HR3 := hide hr3
    have HO3 := hide ((unhide HO2).trans ((Only.of (p := (· = b)) ((Below.refl w2.heap.size w2).drew)).trans ho3))
    have HP3 := hide hp3
    clear hr3 ho3 hp3 hC2 HOF HR2 HO2 K rule2
    try clear hHeld
    go_wp2
    exact bodyPost_end (v := .tuple #[]) (by simp [results, Tryz.results30, go_sem]) rfl ⟨d3, ⟨rfl, unhide HR3, unhide HO3⟩, unhide HP3⟩
set_option maxRecDepth 10000 in
set_option maxHeartbeats 1000000 in
theorem onward_trial (h : RunRel W r b j ex inp d) (hlu : ¬ (j.base : Int) = (j.up : Int)) (a2 a3 a5 a6 : Int) (hst : statOf d = .agg #[.bool true, .int .i64 2, .int .i64 a2, .int .i64 a3, .int .i64 j.base, .int .i64 a5, .int .i64 a6]) (P : M.Dev → Prop)
    (hgo : ∀ X : World, RunRel X r b j ex inp d → Calls Tryz.prog 13 #[.pointer (some ⟨r, 0, none⟩), .int .i64 7, .int .i64 0, .string ⟨#[]⟩, .int .i64 j.up] X fun e w' => ∃ d', Goes X r b j ex inp d' e w' ∧ P d') :
    Calls Tryz.prog 30 #[.pointer (some ⟨r, 0, none⟩)] W fun e w' => ∃ d', Goes W r b j ex inp d' e w' ∧ P d' := by
  have HSS := hide (runStatus_any h)
  rw [hst] at HSS
  have hbq : ((j.base : Int) == (j.up : Int)) = false := by simp [hlu]
  have HOF := hide hgo
  clear hgo
  have HR := hide h
  have hlt := h.lt
  clear h hst
  go_enter Tryz.func30, Tryz.ntmps30
  go_wp2_with fail
  refine (unhide HSS).mono ?_
  rintro e w1 ⟨rfl, hb1⟩
  have HR1 := hide ((unhide HR).kept hb1)
  have HO1 := hide (Only.of (p := (· = b)) hb1)
  obtain ⟨hx1, hf1⟩ := block_facts (unhide HR1).run
  have hs1 := hb1.size
  clear hb1 HR HSS
  have l1 : r < w1.heap.size := (by omega); have n1 : ¬ r = w1.heap.size := (by omega)
  go_wp2_with fail
  go_quiet (fail)
  go_wp2_with fail
  refine (unhide HOF _ ((unhide HR1).kept (below_drewN ((Below.refl _ _).alloc (Nat.le_refl _) _) _))).mono ?_
  rintro e w3 ⟨d3, ⟨rfl, hr3, ho3⟩, hp3⟩
  have HR3 := hide hr3
  have HO3 := hide (((unhide HO1).trans (Only.of (below_drewN ((Below.refl _ _).alloc (Nat.le_refl _) _) _))).trans ho3)
  have HP3 := hide hp3
  clear hr3 ho3 hp3 HOF HR1 HO1 hx1 hf1
  go_wp2
  exact bodyPost_end (v := .tuple #[]) (by simp [results, Tryz.results30, go_sem]) rfl ⟨d3, ⟨rfl, unhide HR3, unhide HO3⟩, unhide HP3⟩
set_option maxRecDepth 10000 in
set_option maxHeartbeats 1000000 in
theorem onward_fetch (h : RunRel W r b j ex inp d) (hlu : ¬ (j.base : Int) = (j.up : Int)) (a2 a3 a5 a6 : Int) (hst : statOf d = .agg #[.bool true, .int .i64 1, .int .i64 a2, .int .i64 a3, .int .i64 j.base, .int .i64 a5, .int .i64 a6]) (P : M.Dev → Prop)
    (Q : M.Dev → Prop) (hfe : ∀ X : World, RunRel X r b j ex inp d → Calls Tryz.prog 24 #[.pointer (some ⟨r, 0, none⟩)] X fun e w' => ∃ d', Goes X r b j ex inp d' e w' ∧ Q d') (hgo : ∀ (X : World) (d2 : M.Dev), RunRel X r b j ex inp d2 → Q d2 → Calls Tryz.prog 13 #[.pointer (some ⟨r, 0, none⟩), .int .i64 3, .int .i64 0, .string ⟨#[]⟩, .int .i64 j.up] X fun e w' => ∃ d', Goes X r b j ex inp d' e w' ∧ P d') :
    Calls Tryz.prog 30 #[.pointer (some ⟨r, 0, none⟩)] W fun e w' => ∃ d', Goes W r b j ex inp d' e w' ∧ P d' := by
  have HSS := hide (runStatus_any h)
  rw [hst] at HSS
  have hbq : ((j.base : Int) == (j.up : Int)) = false := by simp [hlu]
  have HFE := hide hfe
  have HOF := hide hgo
  clear hgo hfe
  have HR := hide h
  have hlt := h.lt
  clear h hst
  go_enter Tryz.func30, Tryz.ntmps30
  go_wp2_with fail
  refine (unhide HSS).mono ?_
  rintro e w1 ⟨rfl, hb1⟩
  have HR1 := hide ((unhide HR).kept hb1)
  have HO1 := hide (Only.of (p := (· = b)) hb1)
  obtain ⟨hx1, hf1⟩ := block_facts (unhide HR1).run
  have hs1 := hb1.size
  clear hb1 HR HSS
  have l1 : r < w1.heap.size := (by omega); have n1 : ¬ r = w1.heap.size := (by omega)
  go_wp2_with fail
  go_quiet (fail)
  go_wp2_with fail
  refine (unhide HFE _ ((unhide HR1).kept (below_drewN ((Below.refl _ _).alloc (Nat.le_refl _) _) _))).mono ?_
  rintro e w2 ⟨d2, ⟨rfl, hr2, ho2⟩, hq2⟩
  have HR2 := hide hr2
  have HO2 := hide (((unhide HO1).trans (Only.of (below_drewN ((Below.refl _ _).alloc (Nat.le_refl _) _) _))).trans ho2)
  have HQ2 := hide hq2
  obtain ⟨hx2, hf2⟩ := block_facts hr2.run
  clear hr2 ho2 hq2 HFE HR1 HO1 hx1 hf1
  go_wp2_with fail
  refine (unhide HOF _ _ (unhide HR2) (unhide HQ2)).mono ?_
  rintro e w3 ⟨d3, ⟨rfl, hr3, ho3⟩, hp3⟩
  have HR3 := hide hr3
  have HO3 := hide ((unhide HO2).trans ho3)
  have HP3 := hide hp3
  clear hr3 ho3 hp3 HOF HR2 HO2 hx2 hf2
  go_wp2
  exact bodyPost_end (v := .tuple #[]) (by simp [results, Tryz.results30, go_sem]) rfl ⟨d3, ⟨rfl, unhide HR3, unhide HO3⟩, unhide HP3⟩
theorem onward_st (hj : M.JobOk j) (hm : j.man.size ≤ maxLen) (h : RunRel W r b j ex inp d) (hl : M.Lv j d) :
    Calls Tryz.prog 30 #[.pointer (some ⟨r, 0, none⟩)] W fun e w' => Steps W r b j ex inp d e w' := by
  have hlu : ¬ (j.base : Int) = (j.up : Int) := by have := hj.less; omega
  cases hon : d.on with
  | false =>
    have hr4 : M.rank j d = 4 := by unfold M.rank; rw [if_pos hon]
    have hst : statOf d = .agg #[.bool false, .int .i64 0, .int .i64 0, .int .i64 0, .int .i64 0, .int .i64 0, .int .i64 0] := by
      unfold statOf
      rw [if_neg (by rw [hon]; simp)]
    have hv : ∃ ph' tr' th' : Nat, if M.fld d.F 2 = 2 then (if M.fld d.F 3 = 0 then ph' = 0 ∧ tr' = 0 ∧ th' = 0 else ph' = 2 ∧ tr' = M.fld d.F 3 - 1 ∧ th' = 0) else ph' = M.fld d.F 2 ∧ tr' = M.fld d.F 3 ∧ th' = M.fld d.F 10 := by
      by_cases h2 : M.fld d.F 2 = 2
      · by_cases h3 : M.fld d.F 3 = 0
        · exact ⟨0, 0, 0, by rw [if_pos h2, if_pos h3]; exact ⟨rfl, rfl, rfl⟩⟩
        · exact ⟨2, _, 0, by rw [if_pos h2, if_neg h3]; exact ⟨rfl, rfl, rfl⟩⟩
      · exact ⟨_, _, _, by rw [if_neg h2]; exact ⟨rfl, rfl, rfl⟩⟩
    obtain ⟨ph', tr', th', hv⟩ := hv
    obtain ⟨d', hd, hs', _⟩ := M.sf_boot hj (M.lv_off hj hl hon) hv
    refine (onward_boot h hst d' _ _ _ hd).mono fun e w' hh => ⟨d', hh, M.st_lv hs', .inl ?_⟩
    rw [hr4, M.st_rank hj hs']
    split <;> omega
  | true =>
    rcases M.lv_cases hj hl hon with ⟨hu, hs⟩ | ⟨hu, hp, hs⟩ | ⟨hu, hp, hs⟩ | ⟨hu, hp, hs⟩
    · have hst : statOf d = .agg #[.bool true, .int .i64 (M.fld d.F 2), .int .i64 (M.servedD d.F), .int .i64 (M.verOf d.F (M.servedD d.F)), .int .i64 j.up, .int .i64 (M.fld d.F 3), .int .i64 (if M.fld d.F 2 = 1 then (M.missing d.F).length else 0 : Nat)] := by
        unfold statOf
        rw [if_pos hon]
        unfold statV
        rw [hs.kept, if_pos rfl]
      refine (onward_done h _ _ _ _ _ hst).mono fun e w' hh => ⟨d, hh, hl, .inr ?_⟩
      rw [M.st_rank hj hs, if_pos rfl]
    · have hst : statOf d = .agg #[.bool true, .int .i64 2, .int .i64 (M.servedD d.F), .int .i64 (M.verOf d.F (M.servedD d.F)), .int .i64 j.base, .int .i64 (M.fld d.F 3), .int .i64 (if M.fld d.F 2 = 1 then (M.missing d.F).length else 0 : Nat)] := by
        unfold statOf
        rw [if_pos hon]
        unfold statV
        rw [hs.kept, if_neg (by simp)]
        rw [hp]
        rfl
      refine (onward_trial h hlu _ _ _ _ hst (fun d' => M.St j d' 0 0 0 true) (fun X hX => confirm_st hj hX hs)).mono fun e w' ⟨d', hh, hs'⟩ => ⟨d', hh, M.st_lv hs', .inr ?_⟩
      rw [M.st_rank hj hs', if_pos rfl]
    · have hst : statOf d = .agg #[.bool true, .int .i64 1, .int .i64 (M.servedD d.F), .int .i64 (M.verOf d.F (M.servedD d.F)), .int .i64 j.base, .int .i64 (M.fld d.F 3), .int .i64 (if M.fld d.F 2 = 1 then (M.missing d.F).length else 0 : Nat)] := by
        unfold statOf
        rw [if_pos hon]
        unfold statV
        rw [hs.kept, if_neg (by simp)]
        rw [hp]
        rfl
      refine (onward_fetch h hlu _ _ _ _ hst (fun d' => M.St j d' 2 3 0 false) (fun d' => ∃ tr' th' : Nat, M.St j d' 1 tr' th' false ∧ ∀ i, i < M.chunksN j.patch.size → th' / 2 ^ i % 2 = 1)
        (fun X hX => (fed_st hj hX hs).mono fun e w' ⟨d', tr', th', hg, hs', ha⟩ => ⟨d', hg, tr', th', hs', ha⟩)
        (fun X d2 hX hq => by
          obtain ⟨tr', th', hs', ha⟩ := hq
          exact (install_st hj hX hs' ha).mono fun e w' ⟨d', hg, hs2, _⟩ => ⟨d', hg, hs2⟩)).mono fun e w' ⟨d', hh, hs'⟩ => ⟨d', hh, M.st_lv hs', .inl ?_⟩
      rw [M.st_rank hj hs', M.st_rank hj hs]
      simp
    · have hst : statOf d = .agg #[.bool true, .int .i64 0, .int .i64 (M.servedD d.F), .int .i64 (M.verOf d.F (M.servedD d.F)), .int .i64 j.base, .int .i64 (M.fld d.F 3), .int .i64 (if M.fld d.F 2 = 1 then (M.missing d.F).length else 0 : Nat)] := by
        unfold statOf
        rw [if_pos hon]
        unfold statV
        rw [hs.kept, if_neg (by simp)]
        rw [hp]
        rfl
      refine (onward_offer h hlu _ _ _ _ hst (fun d' => M.St j d' 1 0 0 false) (fun X hX => (offer_st hj hm hX hs (by omega)).mono fun e w' ⟨d', hg, hs2, _⟩ => ⟨d', hg, hs2⟩)).mono fun e w' ⟨d', hh, hs'⟩ => ⟨d', hh, M.st_lv hs', .inl ?_⟩
      rw [M.st_rank hj hs', M.st_rank hj hs]
      simp
end
end Go.Proofs.YtjfmiomopfjecabGreat

/- Wherever the power fails: Survives. -/
namespace Go.Proofs.YtjfmiomopfjecabGreat
open Go.RowKit Go.Lib

/-- a blow as it is given: an event's kind, its number, where the power fails, how much is torn -/
structure Blo where
  kind : Int
  n : Int
  cut : Int
  torn : Int
def blowCells (l : List Blo) : List Value := l.flatMap fun x => [.int .i64 x.kind, .int .i64 x.n, .int .i64 x.cut, .int .i64 x.torn]
theorem blowCells_length (l : List Blo) : (blowCells l).length = 4 * l.length := by
  induction l with
  | nil => rfl
  | cons a l ih => simp [blowCells] at ih ⊢; omega
theorem blowCells_at {l : List Blo} {i : Nat} (h : i < l.length) :
    (blowCells l)[4 * i]? = some (.int .i64 l[i].kind) ∧ (blowCells l)[4 * i + 1]? = some (.int .i64 l[i].n) ∧ (blowCells l)[4 * i + 2]? = some (.int .i64 l[i].cut) ∧ (blowCells l)[4 * i + 3]? = some (.int .i64 l[i].torn) := by
  induction l generalizing i with
  | nil => exact absurd h (by simp)
  | cons a l ih =>
    have e : blowCells (a :: l) = [.int .i64 a.kind, .int .i64 a.n, .int .i64 a.cut, .int .i64 a.torn] ++ blowCells l := rfl
    rw [e]
    cases i with
    | zero => exact ⟨rfl, rfl, rfl, rfl⟩
    | succ i =>
      have hi : i < l.length := by simpa using h
      obtain ⟨h0, h1, h2, h3⟩ := ih hi
      have q : ∀ k, ([.int .i64 a.kind, .int .i64 a.n, .int .i64 a.cut, .int .i64 a.torn] ++ blowCells l)[4 * (i + 1) + k]? = (blowCells l)[4 * i + k]? := by
        intro k
        rw [List.getElem?_append_right (by simp; omega)]
        congr 1
        simp
        omega
      refine ⟨(q 0).trans h0, (q 1).trans h1, (q 2).trans h2, (q 3).trans h3⟩
/-- the slice v of n blows is empty, or its cells are xs -/
def HoldsBlows (w : World) (v : Value) (n : Nat) (xs : List Value) : Prop :=
  (∃ p cap, v = .slice p 0 cap ∧ n = 0) ∨ ∃ g off cap, v = .slice (some ⟨g, off, none⟩) n cap ∧ g < w.heap.size ∧ n ≤ cap ∧ cap ≤ maxLen ∧ ∀ j u, xs[j]? = some u → w.cell? ⟨g, off + j, none⟩ = some u
theorem HoldsBlows.mono {w w' : World} {v : Value} {n : Nat} {xs : List Value} (h : HoldsBlows w v n xs) (hb : Below w.heap.size w w') : HoldsBlows w' v n xs := by
  rcases h with h | ⟨g, off, cap, hv, hg, h1, h2, h3⟩
  · exact .inl h
  · exact .inr ⟨g, off, cap, hv, Nat.lt_of_lt_of_le hg hb.size, h1, h2, fun j u hj => (hb.cell (p := ⟨g, off + j, none⟩) hg).trans (h3 j u hj)⟩
theorem HoldsBlows.len {w : World} {v : Value} {n : Nat} {xs : List Value} (h : HoldsBlows w v n xs) : n ≤ maxLen := by
  rcases h with ⟨_, _, _, h⟩ | ⟨g, off, cap, hv, hg, h1, h2, h3⟩
  · subst h; exact Nat.zero_le _
  · exact Nat.le_trans h1 h2
set_option maxRecDepth 10000 in
set_option maxHeartbeats 4000000 in
theorem survives_any {W : World} {c : Chg} {j : M.Job} {ex inp : ByteArray} {v : Value} {l : List Blo} (hv : HoldsBlows W v l.length (blowCells l)) (hl : ∀ x ∈ l, (-9223372036854775808 ≤ x.kind ∧ x.kind ≤ 9223372036854775807) ∧ (-9223372036854775808 ≤ x.n ∧ x.n ≤ 9223372036854775807))
    (hj : M.JobOk j) (hm : j.man.size ≤ maxLen) (hin : inp.size ≤ maxLen)
    (hbg : ∀ X : World, Calls Tryz.prog 10 #[chgV c, .string inp] X fun e w' => Begun X j ex inp e w') :
    Calls Tryz.prog 8 #[chgV c, v, .string inp] W fun e w' => e = .returned (.bool true) ∧ Below W.heap.size W w' := by
  have HJ := hide hj
  have HM := hide hm
  have HIN := hide hin
  have HBG := hide hbg
  clear hj hm hin hbg
  have hlen := hv.len
  unfold maxLen at hlen
  have HV := hide hv
  have hsh : ∃ p cap, v = .slice p l.length cap := by
    rcases hv with ⟨p, cap, rfl, h⟩ | ⟨g, off, cap, rfl, _⟩
    · exact ⟨p, cap, by rw [h]⟩
    · exact ⟨_, _, rfl⟩
  clear hv
  obtain ⟨p, cap, rfl⟩ := hsh
  have HL := hide hl
  clear hl
  go_enter Tryz.func8, Tryz.ntmps8
  go_wp2_with fail
  refine (unhide HBG _).mono ?_
  rintro e w1 ⟨r, b, d1, rfl, hr1, hs1, hb1, hge1, hge2⟩
  have hbW := ((Below.refl W.heap.size W).alloc (Nat.le_refl _) (.cells #[.int .i64 c.i1, .int .i64 c.o1, .string c.t1, .string c.s1, .int .i64 c.i2, .int .i64 c.o2, .string c.t2, .string c.s2, .string c.key, .int .i64 c.base, .int .i64 c.up, .bool c.diffed, .bool c.shown, .string c.ask] 25)).trans (hb1.mono (by simp))
  have hW1 := hbW.size
  have HBW := hide hbW
  have hge : W.heap.size ≤ b := by simp at hge2; omega
  have HR1 := hide hr1
  have hlr := hr1.lt
  obtain ⟨hx1, hf1⟩ := block_facts hr1.run
  have HL1 := hide (M.st_lv hs1)
  have HU1 := hide (M.st_up (unhide HJ) hs1)
  clear hr1 hb1 hge1 hge2 hbW HBG hs1
  go_wp2_with fail
  have HR2 : Hid (RunRel (w1.alloc (.cells #[.bool false, .bool false] 58)) r b j ex inp d1) := (unhide HR1).kept ((Below.refl _ _).alloc (Nat.le_refl _) _)
  have KG2 : Hid ((w1.alloc (.cells #[.bool false, .bool false] 58)).heap[w1.heap.size]? = some (.cells #[.bool false, .bool false] 58 (0, 0))) := last_block _ _ rfl
  have HO2 : Hid (Only (Both b w1.heap.size) w1 (w1.alloc (.cells #[.bool false, .bool false] 58))) := Only.of ((Below.refl _ _).alloc (Nat.le_refl _) _)
  have hgb : ¬ w1.heap.size = b := by omega
  have hgr : ¬ w1.heap.size = r := by omega
  clear hx1 hf1 HR1
  generalize (w1.alloc (.cells #[.bool false, .bool false] 58)) = w2 at *
  generalize hgg : w1.heap.size = g at *
  have hgW : W.heap.size ≤ g := by omega
  go_loopw [9] (fun i wr => ∃ (k : Nat) (d' : M.Dev) (kp may : Bool), k ≤ l.length ∧ i = .int .i64 k ∧ RunRel wr r b j ex inp d' ∧ M.Lv j d' ∧ wr.heap[g]? = some (.cells #[.bool kp, .bool may] 58 (0, 0)) ∧ Only (Both b g) w1 wr ∧ (may = false → M.upB j d' = kp) ∧ (d'.on = true → may = false)) (fun i _ => l.length - (intOf i).toNat)
  case atStart => exact ⟨0, d1, false, false, by omega, rfl, unhide HR2, unhide HL1, unhide KG2, unhide HO2, fun _ => unhide HU1, fun _ => rfl⟩
  case round =>
    clear HR2 KG2 HO2 HL1 HU1
    obtain ⟨k, d3, kp, may, hk, rfl, hr3, hl3, kg3, ho3, ht3, hm3⟩ := hrel
    have hBel := (unhide HBW).trans (ho3.below (B := W.heap.size) (Nat.le_trans hW1 (Nat.le_of_eq hgg.symm)) fun q hq => by rcases hq with hq | hq <;> rw [hq] <;> assumption)
    have hv3 := (unhide HV).mono hBel
    have HR3 := hide hr3
    have HL3 := hide hl3
    have KG3 := hide kg3
    have HO3 := hide ho3
    have HT3 := hide ht3
    have HM3 := hide hm3
    clear hr3 hl3 kg3 ho3 ht3 hm3 hBel
    by_cases hlt : k < l.length
    · rcases hv3 with ⟨_, _, h, hn⟩ | ⟨g', off, cap', h, hg', h1, h2, h3⟩
      · exact absurd hlt (by omega)
      · injection h with hp _ hcap
        subst hp hcap
        obtain ⟨i0, i1, i2, i3⟩ := blowCells_at hlt
        have c0 := h3 _ _ i0
        have c1 := h3 _ _ i1
        have c2 := h3 _ _ i2
        have c3 := h3 _ _ i3
        rw [show off + 4 * k = off + k * 4 from by omega] at c0
        rw [show off + (4 * k + 1) = off + k * 4 + 1 from by omega] at c1
        rw [show off + (4 * k + 2) = off + k * 4 + 2 from by omega] at c2
        rw [show off + (4 * k + 3) = off + k * 4 + 3 from by omega] at c3
        obtain ⟨hxk, hxn⟩ := unhide HL l[k] (List.getElem_mem hlt)
        have HC := hide (blown_st (unhide HJ) (unhide HM) (unhide HIN) (unhide HR3) (unhide HL3) l[k].kind l[k].n l[k].cut l[k].torn hxk hxn kp may (unhide KG3) hgb hgr (unhide HT3) (unhide HM3))
        clear h3 i0 i1 i2 i3 hxk hxn
        generalize l[k].kind = y0 at *
        generalize l[k].n = y1 at *
        generalize l[k].cut = y2 at *
        generalize l[k].torn = y3 at *
        have hltI : (k : Int) < (l.length : Int) := by omega
        have hk0 : (0 : Int) ≤ (k : Int) := by omega
        generalize l.length = ln at *
        go_wp2_with fail
        refine (unhide HC).mono ?_
        rintro e w5 ⟨d5, hl5, rfl, kp5, may5, hr5, kg5, ho5, ht5, hm5⟩
        have HR5 := hide hr5
        have HL5 := hide hl5
        have KG5 := hide kg5
        have HO5 := hide ((unhide HO3).trans ho5)
        have HT5 := hide ht5
        have HM5 := hide hm5
        clear hr5 hl5 kg5 ho5 ht5 hm5 HC c0 c1 c2 c3
        go_wp2
        go_roundw
        case rel => exact ⟨k + 1, d5, kp5, may5, by omega, by go_num, unhide HR5, unhide HL5, unhide KG5, unhide HO5, unhide HT5, unhide HM5⟩
        case measure => simp [intOf]; omega
    · have hkn : ¬ (k : Int) < (l.length : Int) := by omega
      clear hv3 HV HL hlen
      generalize l.length = ln at *
      go_wp2_with fail
      go_loopw [10] (fun i wr => ∃ (k : Nat) (d' : M.Dev), k ≤ 5 ∧ i = .int .i64 k ∧ RunRel wr r b j ex inp d' ∧ M.Lv j d' ∧ Only (Both b g) w1 wr ∧ (M.rank j d' + k ≤ 4 ∨ M.rank j d' = 0)) (fun i _ => 5 - (intOf i).toNat)
      case atStart => exact ⟨0, d3, by omega, rfl, unhide HR3, unhide HL3, unhide HO3, .inl (by have := M.rank_le (j := j) (d := d3); omega)⟩
      case round =>
        clear HR3 HL3 HO3 KG3 HT3 HM3
        obtain ⟨k2, d6, hk2, rfl, hr6, hl6, ho6, hrk⟩ := hrel
        have HR6 := hide hr6
        have HL6 := hide hl6
        have HO6 := hide ho6
        have HRK := hide hrk
        obtain ⟨hx6, hf6⟩ := block_facts hr6.run
        clear hr6 hl6 ho6 hrk
        by_cases hlt2 : k2 < 5
        · have HC := hide (onward_st (unhide HJ) (unhide HM) (unhide HR6) (unhide HL6))
          go_wp2_with fail
          refine (unhide HC).mono ?_
          rintro e w7 ⟨d7, ⟨rfl, hr7, ho7⟩, hl7, hrk7⟩
          have HR7 := hide hr7
          have HL7 := hide hl7
          have HO7 := hide ((unhide HO6).trans (only_both ho7))
          have HK7 : Hid (M.rank j d7 + (k2 + 1) ≤ 4 ∨ M.rank j d7 = 0) := by
            have := unhide HRK
            show _ ∨ _
            omega
          clear hr7 hl7 ho7 hrk7 HC hx6 hf6
          go_wp2
          go_roundw
          case rel => exact ⟨k2 + 1, d7, by omega, by go_num, unhide HR7, unhide HL7, unhide HO7, unhide HK7⟩
          case measure => simp [intOf]; omega
        · have hk5 : k2 = 5 := by omega
          subst hk5
          have hz : M.rank j d6 = 0 := by have := unhide HRK; omega
          have hs6 := M.rank_zero (unhide HJ) (unhide HL6) hz
          clear hz
          have HC8 := hide (phase_st (unhide HR6) hs6 (kv := j.up) (by simp))
          go_wp2_with fail
          refine (unhide HC8).mono ?_
          rintro e w8 ⟨rfl, hb8⟩
          have HR8 := hide ((unhide HR6).kept hb8)
          have HO8 := hide ((unhide HO6).trans (Only.of hb8))
          obtain ⟨hx8, hf8⟩ := block_facts (unhide HR8).run
          clear HC8 hb8 HR6 HO6 hx6 hf6
          have HC9 := hide (serves_st (unhide HJ) (unhide HR8) hs6 (unhide HIN))
          rw [show M.verP j 0 true = j.up from by simp [M.verP]] at HC9
          go_wp2_with fail
          refine (unhide HC9).mono ?_
          rintro e w9 ⟨rfl, hr9, ho9⟩
          have HR9 := hide hr9
          have HO9 := hide ((unhide HO8).trans (only_both ho9))
          obtain ⟨hx9, hf9⟩ := block_facts hr9.run
          clear hr9 ho9 HC9 HR8 HO8 hx8 hf8
          have HB := hide ((unhide HBW).trans ((unhide HO9).below (B := W.heap.size) (Nat.le_trans hW1 (Nat.le_of_eq hgg.symm)) fun q hq => by rcases hq with hq | hq <;> rw [hq] <;> assumption))
          go_wp2
          go_ret
          exact ⟨rfl, unhide HB⟩
end Go.Proofs.YtjfmiomopfjecabGreat

/- A row of blows that is handed in. -/
namespace Go.Proofs.YtjfmiomopfjecabGreat
open Go.ChangeShapes Go.WideShapes Go.ChangeAt Go.RowKit Go.Joins
open Go.ChangeMaps (open_string shut_string)

theorem list_of {α : Type} {P : Nat → α → Prop} (n : Nat) (h : ∀ i, i < n → ∃ x, P i x) : ∃ l : List α, l.length = n ∧ ∀ i (hi : i < l.length), P i l[i] := by
  induction n with
  | zero => exact ⟨[], rfl, fun i hi => absurd hi (by simp)⟩
  | succ n ih =>
    obtain ⟨l, hl, hP⟩ := ih fun i hi => h i (by omega)
    obtain ⟨x, hx⟩ := h n (by omega)
    refine ⟨l ++ [x], by simp [hl], fun i hi => ?_⟩
    by_cases e : i < l.length
    · rw [List.getElem_append_left e]
      exact hP i e
    · have e' : i = n := by simp at hi; omega
      subst e'
      rw [List.getElem_append_right (by omega)]
      simp [hl]
      exact hx
section
variable {H : Type} {enc : TypeId × Value → H} {w : World} {base : Nat} {spare : Nat → Bool} {held : Bool}
set_option maxRecDepth 100000 in
theorem openBlow {n : Nat} {cs : List Value} {y : DataW H × List MemPlace} (h : DataW.trod enc Tryz.prog w base spare held n 61 cs = some y) :
    ∃ x : Blo, cs = [.int .i64 x.kind, .int .i64 x.n, .int .i64 x.cut, .int .i64 x.torn] ∧ (Lit.int .i64 x.kind).wf = true ∧ (Lit.int .i64 x.n).wf = true := by
  have hci : Tryz.prog.cellsOf 3 = 1 := by kernel_rfl
  have hcB : Tryz.prog.cellsOf 61 = 4 := by kernel_rfl
  obtain ⟨y0, y1, y2, y3, m, hx, hlen, h0, h1, h2, h3⟩ := trod_struct4 Tryz.underlying61 h
  rw [hcB] at hlen
  match cs, hlen with
  | [c0, c1, c2, c3], _ =>
    simp [hci] at h0 h1 h2 h3
    obtain ⟨a, e0, rfl, wa⟩ := DataW.trod_int Tryz.underlying3 h0
    obtain ⟨b, e1, rfl, wb⟩ := DataW.trod_int Tryz.underlying3 h1
    obtain ⟨c, e2, rfl, _⟩ := DataW.trod_int Tryz.underlying3 h2
    obtain ⟨d, e3, rfl, _⟩ := DataW.trod_int Tryz.underlying3 h3
    simp only [List.cons.injEq, and_true] at e0 e1 e2 e3
    subst e0 e1 e2 e3
    exact ⟨⟨a, b, c, d⟩, rfl, wa, wb⟩
set_option maxRecDepth 100000 in
/-- a row of blows that is handed in -/
theorem openBlows {r : Reach} {b0 : Nat} {v : Value} {d : DataW H} {p : List MemPlace} (hv : Value.okWide Tryz.prog w r b0 55 v) (h : DataW.Trod enc Tryz.prog w base spare held 55 v d p) :
    ∃ l : List Blo, HoldsBlows w v l.length (blowCells l) ∧ ∀ x ∈ l, (Lit.int .i64 x.kind).wf = true ∧ (Lit.int .i64 x.n).wf = true := by
  have hcB : Tryz.prog.cellsOf 61 = 4 := by kernel_rfl
  obtain ⟨a0, len, cap, rfl⟩ := okWide_slice Tryz.underlying55 hv
  obtain ⟨fuel, hf⟩ := h
  rcases DataW.trod_slice Tryz.underlying55 hf with ⟨e, _⟩ | ⟨a, n, cp, elems, rest, m, _, e, hx, hb, hl, hm, hlen, hel, _, _⟩
  · simp [Value.cells] at e
    obtain ⟨rfl, rfl, rfl⟩ := e
    exact ⟨[], .inl ⟨_, _, rfl, rfl⟩, by simp⟩
  · simp [Value.cells] at e
    obtain ⟨rfl, rfl, rfl⟩ := e
    rw [hcB] at hel
    have each : ∀ i, i < len → ∃ x : Blo, (∀ k, k < 4 → w.cell? ((a.add (i * 4)).add k) = [Value.int .i64 x.kind, .int .i64 x.n, .int .i64 x.cut, .int .i64 x.torn][k]?) ∧ (Lit.int .i64 x.kind).wf = true ∧ (Lit.int .i64 x.n).wf = true := by
      intro i hi
      have hE := hel i hi
      rw [List.getElem?_eq_getElem (by omega)] at hE
      obtain ⟨cs, hcs, ht⟩ := Option.bind_eq_some_iff.1 hE
      obtain ⟨x, rfl, wa, wb⟩ := openBlow ht
      exact ⟨x, (World.cells?_some hcs).2.2, wa, wb⟩
    obtain ⟨l, hll, hP⟩ := list_of len each
    by_cases h0 : len = 0
    · subst h0
      have : l = [] := List.eq_nil_of_length_eq_zero hll
      subst this
      exact ⟨[], .inl ⟨_, _, rfl, rfl⟩, by simp⟩
    · obtain ⟨b, off, spot⟩ := a
      have hspot : spot = none := by
        have := (hP 0 (by omega)).1 0 (by omega)
        simpa [Addr.add] using World.cell?_spot this
      subst hspot
      have hcell : ∀ i (hi : i < l.length) k, k < 4 → w.cell? ⟨b, off + (4 * i + k), none⟩ = [Value.int .i64 l[i].kind, .int .i64 l[i].n, .int .i64 l[i].cut, .int .i64 l[i].torn][k]? := by
        intro i hi k hk
        have := (hP i hi).1 k hk
        rw [add_plain, add_plain] at this
        rw [show off + (4 * i + k) = off + i * 4 + k from by omega]
        exact this
      refine ⟨l, .inr ⟨b, off, cap, by rw [hll], ?_, by omega, hm, ?_⟩, fun x hx => ?_⟩
      · exact World.block_lt_of_cell? w _ (hcell 0 (by omega) 0 (by omega))
      · intro j u hj
        have hjl : j < 4 * l.length := by
          have := (List.getElem?_eq_some_iff.1 hj).1
          rw [blowCells_length] at this
          exact this
        have hi : j / 4 < l.length := by omega
        have hq : j = 4 * (j / 4) + j % 4 := by omega
        have hk : j % 4 < 4 := by omega
        have hc := hcell (j / 4) hi (j % 4) hk
        rw [← hq] at hc
        rw [hc]
        obtain ⟨i0, i1, i2, i3⟩ := blowCells_at hi
        have hk4 : j % 4 = 0 ∨ j % 4 = 1 ∨ j % 4 = 2 ∨ j % 4 = 3 := by omega
        rcases hk4 with e | e | e | e
        · rw [e] at hq ⊢
          rw [hq, Nat.add_zero, i0] at hj
          exact hj
        · rw [e] at hq ⊢
          rw [hq, i1] at hj
          exact hj
        · rw [e] at hq ⊢
          rw [hq, i2] at hj
          exact hj
        · rw [e] at hq ⊢
          rw [hq, i3] at hj
          exact hj
      · obtain ⟨i, hi, rfl⟩ := List.getElem_of_mem hx
        exact (hP i hi).2
end
end Go.Proofs.YtjfmiomopfjecabGreat

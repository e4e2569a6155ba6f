/- Texts laid together: KeepSound, KeepBlown. -/
import Derived.Test.YtjfmiomopfjecabGreatXa
import Derived.Test.YtjfmiomopfjecabGreatWa
import Derived.Test.YtjfmiomopfjecabGreatWb
import Derived.Test.YtjfmiomopfjecabGreatWc
import Derived.Test.YtjfmiomopfjecabGreatWd
import Derived.Test.YtjfmiomopfjecabGreatWe
import Derived.Test.YtjfmiomopfjecabGreatWf
import Derived.Test.YtjfmiomopfjecabGreatWg
import Derived.Test.YtjfmiomopfjecabGreatWh
import Derived.Test.YtjfmiomopfjecabGreatWi
import Derived.Test.YtjfmiomopfjecabGreatWj
import Derived.Test.YtjfmiomopfjecabGreatWk
import Derived.Test.YtjfmiomopfjecabGreatWl
import Derived.Test.YtjfmiomopfjecabGreatWm
/- A device between two events, wherever the power fails. -/
namespace Go.Proofs.YtjfmiomopfjecabGreat
open Go.RowKit Go.Lib

theorem keepPage_bz {F : Nat → Nat} (hF : ∀ j, F j < 256) {p i : Nat} (hp : p < 23) (hi : i < 16) : M.bz (pageT F p) i = F (16 * p + i) := by
  unfold pageT
  rw [if_pos ⟨by omega, by omega⟩, Int.toNat_natCast, M.bz_mk (fun j _ => hF _) hi]
theorem keepPage_size {F : Nat → Nat} {p : Nat} (hp : p < 23) : (pageT F p).size = 16 := by
  unfold pageT
  rw [if_pos ⟨by omega, by omega⟩, M.mk_size]
theorem below_drewN_block {X : World} {g : Nat} {o : Obj} (n : Nat) (h : X.heap[g]? = some o) : (X.drewN n).heap[g]? = some o := ((below_drewN (Below.refl X.heap.size X) n).block g (Array.getElem?_eq_some_iff.1 h).1).trans h
/-- of what was there only the device and the watch may be others -/
def Both (b g : Nat) : Nat → Prop := fun q => q = b ∨ q = g
theorem only_both {b g : Nat} {W W' : World} (h : Only (· = b) W W') : Only (Both b g) W W' := h.mono fun _ e => .inl e
theorem both_set {b g : Nat} {W X : World} {o : Nat} {v : Value} (h : Only (Both b g) W X) : Only (Both b g) W (X.setCell ⟨g, o, none⟩ v) := h.trans ((only_set X g o v).mono fun _ e => .inr e)
theorem watch_set {W : World} {r b g o : Nat} {v : Value} {j : M.Job} {ex inp : ByteArray} {d : M.Dev} (h : RunRel W r b j ex inp d) (hb : ¬ g = b) (hr : ¬ g = r) : RunRel (W.setCell ⟨g, o, none⟩ v) r b j ex inp d :=
  ⟨set_block h.run (fun e => hr e.symm), h.dev.only (only_set W g o v) (fun e => hb e.symm), h.ne, h.key, h.inv, h.tz⟩
section
variable {W : World} {r b g : Nat} {j : M.Job} {ex inp : ByteArray} {d : M.Dev}
set_option maxRecDepth 10000 in
set_option maxHeartbeats 1000000 in
theorem sound_off (h : RunRel W r b j ex inp d) (hoff : d.on = false) (hwh : d.F 0 = d.F 15 ∨ d.F 16 = d.F 31) :
    Calls Tryz.prog 45 #[.pointer (some ⟨r, 0, none⟩), .pointer (some ⟨g, 0, none⟩)] W fun e w' => e = .returned (.tuple #[]) ∧ Below W.heap.size W w' := by
  have HST : Hid (statOf d = statNo) := by show _ = _; unfold statOf; rw [hoff]; rfl
  have hF := h.inv.2.1.bytes
  have e0 : M.bz (pageT d.F 0) 0 = d.F 0 := keepPage_bz hF (p := 0) (by omega) (by omega)
  have e15 : M.bz (pageT d.F 0) 15 = d.F 15 := keepPage_bz hF (p := 0) (by omega) (by omega)
  have f0 : M.bz (pageT d.F 1) 0 = d.F 16 := keepPage_bz hF (p := 1) (by omega) (by omega)
  have f15 : M.bz (pageT d.F 1) 15 = d.F 31 := keepPage_bz hF (p := 1) (by omega) (by omega)
  have z0 : (pageT d.F 0).size = 16 := keepPage_size (p := 0) (by omega)
  have z1 : (pageT d.F 1).size = 16 := keepPage_size (p := 1) (by omega)
  have HP0 := hide (slotsPage_any hF h.dev 0)
  have HP1 := hide (slotsPage_any hF h.dev 1)
  have hwa : ∃ wa : Bool, decide (M.bz (pageT d.F 0) 0 = M.bz (pageT d.F 0) 15) = wa := ⟨_, rfl⟩
  obtain ⟨wa, hwa⟩ := hwa
  have HW0 := hide (fun X : World => kWhole_any (pageT d.F 0) X z0 wa hwa)
  have hcw : wa = true ∨ (wa = false ∧ ∀ X : World, Calls Tryz.prog 62 #[.string (pageT d.F 1)] X fun e w' => e = .returned (.bool true) ∧ Below X.heap.size X w') := by
    cases hwx : wa with
    | true => exact .inl rfl
    | false =>
      refine .inr ⟨rfl, fun X => kWhole_any (pageT d.F 1) X z1 true (decide_eq_true ?_)⟩
      rw [hwx, e0, e15] at hwa
      have := of_decide_eq_false hwa
      rw [f0, f15]
      rcases hwh with h | h
      · exact absurd h this
      · exact h
  clear hwa e0 e15 f0 f15 z0 z1 hF hwh
  generalize pageT d.F 0 = PA at *
  generalize pageT d.F 1 = PB at *
  have HR := hide h
  have hlt := h.lt
  obtain ⟨hx0, hf0⟩ := block_facts h.run
  clear h hoff
  rcases hcw with rfl | ⟨rfl, hw1⟩
  · go_enter Tryz.func45, Tryz.ntmps45
    (go_wp2_with fail); (refine (unhide HP0).mono ?_); (rintro e w' ⟨rfl, rfl⟩)
    (go_wp2_with fail); (refine (unhide HP1).mono ?_); (rintro e w' ⟨rfl, rfl⟩)
    (go_wp2_with fail)
    refine (unhide HW0 _).mono ?_
    rintro e w1 ⟨rfl, hb1⟩
    have HR1 := hide ((unhide HR).kept hb1)
    have HB1 := hide hb1
    have hsz1 := hb1.size
    clear hb1 HW0 HP0 HP1
    try clear HW1
    (go_wp2_with fail)
    refine (must_true _ _).mono ?_
    rintro e _ ⟨rfl, rfl⟩
    have HSS := hide (runStatus_any (unhide HR1))
    rw [HST.out] at HSS
    (go_wp2_with fail)
    refine (unhide HSS).mono ?_
    rintro e w3 ⟨rfl, hb3⟩
    have HR3 := hide ((unhide HR1).kept hb3)
    have HB3 := hide ((unhide HB1).trans (hb3.mono hsz1))
    have hsz3 := hb3.size
    obtain ⟨hx3, hf3⟩ := block_facts (unhide HR3).run
    clear hb3 HSS HR1 HB1
    clear hx0 hf0
    have l1 : r < w3.heap.size := (by omega); have n1 : ¬ r = w3.heap.size := (by omega)
    have HB := HB3
    go_wp2
    refine bodyPost_ret (v := .tuple #[]) (by simp [results, Tryz.results45, go_sem]) rfl ⟨rfl, ?_⟩
    repeat (first | with_reducible exact unhide HB | with_reducible exact Below.refl _ _ | with_reducible refine bdrew ?_ | (with_reducible refine brow ?_ ?_; (focus (first | omega | (simp; done) | (simp; omega)))) | (with_reducible refine bset ?_ ?_; (focus (first | omega | (simp; done) | (simp; omega)))) | (with_reducible refine balloc ?_ ?_; (focus (first | omega | (simp; done) | (simp; omega)))) | (with_reducible refine bvia (unhide HB1) ?_ ?_; (focus (first | omega | (simp; done) | (simp; omega)))) | (with_reducible refine bvia (unhide HB2) ?_ ?_; (focus (first | omega | (simp; done) | (simp; omega)))) | (with_reducible refine bvia (unhide HB3) ?_ ?_; (focus (first | omega | (simp; done) | (simp; omega)))) | (with_reducible refine bvia (unhide HB4) ?_ ?_; (focus (first | omega | (simp; done) | (simp; omega)))) | (with_reducible refine bvia (unhide HB5) ?_ ?_; (focus (first | omega | (simp; done) | (simp; omega)))) | (with_reducible refine bvia (unhide HB6) ?_ ?_; (focus (first | omega | (simp; done) | (simp; omega)))))
  · have HW1 := hide hw1
    clear hw1
    go_enter Tryz.func45, Tryz.ntmps45
    (go_wp2_with fail); (refine (unhide HP0).mono ?_); (rintro e w' ⟨rfl, rfl⟩)
    (go_wp2_with fail); (refine (unhide HP1).mono ?_); (rintro e w' ⟨rfl, rfl⟩)
    (go_wp2_with fail)
    refine (unhide HW0 _).mono ?_
    rintro e w1 ⟨rfl, hb1⟩
    have HBa := hide hb1
    clear hb1
    (go_wp2_with fail)
    refine (unhide HW1 _).mono ?_
    rintro e w2 ⟨rfl, hb2⟩
    have hb1 := (unhide HBa).trans (hb2.mono (unhide HBa).size)
    clear hb2 HBa
    generalize w2 = w1 at *
    have HR1 := hide ((unhide HR).kept hb1)
    have HB1 := hide hb1
    have hsz1 := hb1.size
    clear hb1 HW0 HP0 HP1
    try clear HW1
    (go_wp2_with fail)
    refine (must_true _ _).mono ?_
    rintro e _ ⟨rfl, rfl⟩
    have HSS := hide (runStatus_any (unhide HR1))
    rw [HST.out] at HSS
    (go_wp2_with fail)
    refine (unhide HSS).mono ?_
    rintro e w3 ⟨rfl, hb3⟩
    have HR3 := hide ((unhide HR1).kept hb3)
    have HB3 := hide ((unhide HB1).trans (hb3.mono hsz1))
    have hsz3 := hb3.size
    obtain ⟨hx3, hf3⟩ := block_facts (unhide HR3).run
    clear hb3 HSS HR1 HB1
    clear hx0 hf0
    have l1 : r < w3.heap.size := (by omega); have n1 : ¬ r = w3.heap.size := (by omega)
    have HB := HB3
    go_wp2
    refine bodyPost_ret (v := .tuple #[]) (by simp [results, Tryz.results45, go_sem]) rfl ⟨rfl, ?_⟩
    repeat (first | with_reducible exact unhide HB | with_reducible exact Below.refl _ _ | with_reducible refine bdrew ?_ | (with_reducible refine brow ?_ ?_; (focus (first | omega | (simp; done) | (simp; omega)))) | (with_reducible refine bset ?_ ?_; (focus (first | omega | (simp; done) | (simp; omega)))) | (with_reducible refine balloc ?_ ?_; (focus (first | omega | (simp; done) | (simp; omega)))) | (with_reducible refine bvia (unhide HB1) ?_ ?_; (focus (first | omega | (simp; done) | (simp; omega)))) | (with_reducible refine bvia (unhide HB2) ?_ ?_; (focus (first | omega | (simp; done) | (simp; omega)))) | (with_reducible refine bvia (unhide HB3) ?_ ?_; (focus (first | omega | (simp; done) | (simp; omega)))) | (with_reducible refine bvia (unhide HB4) ?_ ?_; (focus (first | omega | (simp; done) | (simp; omega)))) | (with_reducible refine bvia (unhide HB5) ?_ ?_; (focus (first | omega | (simp; done) | (simp; omega)))) | (with_reducible refine bvia (unhide HB6) ?_ ?_; (focus (first | omega | (simp; done) | (simp; omega)))))
set_option maxRecDepth 10000 in
set_option maxHeartbeats 1000000 in
theorem sound_u0 (h : RunRel W r b j ex inp d) (tr th : Nat) (hs : M.St j d 0 tr th true) (hj : M.JobOk j) (hin : inp.size ≤ maxLen) (hwh : d.F 0 = d.F 15 ∨ d.F 16 = d.F 31)
    (hg : W.heap[g]? = some (.cells #[.bool true, .bool false] 58 (0, 0))) (hgb : ¬ g = b) (hgr : ¬ g = r) :
    Calls Tryz.prog 45 #[.pointer (some ⟨r, 0, none⟩), .pointer (some ⟨g, 0, none⟩)] W fun e w' => e = .returned (.tuple #[]) ∧ RunRel w' r b j ex inp d ∧ w'.heap[g]? = some (.cells #[.bool true, .bool false] 58 (0, 0)) ∧ Only (Both b g) W w' := by
  have hvs := hs.served
  have hsv := (hs.kept)
  rw [show M.verP j 0 true = j.up from by simp [M.verP]] at hvs
  rw [show (if true = true then j.up else j.base) = j.up from by simp] at hsv
  have HST : Hid (statOf d = .agg #[.bool true, .int .i64 0, .int .i64 (M.servedD d.F), .int .i64 j.up, .int .i64 j.up, .int .i64 tr, .int .i64 (if M.fld d.F 2 = 1 then (M.missing d.F).length else 0 : Nat)]) := by
    show _ = _
    unfold statOf
    rw [if_pos hs.on]
    unfold statV
    rw [hvs, hsv, hs.phase, hs.tries]
    try rfl
  have HSV : Hid (∀ X : World, RunRel X r b j ex inp d → Calls Tryz.prog 15 #[.pointer (some ⟨r, 0, none⟩), .int .i64 j.up] X fun e w' => Goes X r b j ex inp d e w') := by
    intro X hX
    have := serves_st hj hX hs hin
    rwa [show M.verP j 0 true = j.up from by simp [M.verP]] at this
  have HMU : Hid (∀ X : World, Calls Tryz.prog 22 #[.pointer (some ⟨r, 0, none⟩), .bool true] X fun e w' => e = .returned (.tuple #[]) ∧ w' = X) := fun X => (must_true X r).mono fun e w' hh => ⟨hh.1, hh.2.symm⟩
  have hlu : ¬ (j.base : Int) = (j.up : Int) := by have := hj.less; omega
  have hlu2 : ¬ (j.up : Int) = (j.base : Int) := by omega
  have hbq : ((j.base : Int) == (j.up : Int)) = false := by simp [hlu]
  have hbq2 : ((j.up : Int) == (j.base : Int)) = false := by simp [hlu2]
  generalize (if M.fld d.F 2 = 1 then (M.missing d.F).length else 0 : Nat) = ms at *
  generalize M.servedD d.F = sd at *
  clear hvs hsv hs hj hin
  have hF := h.inv.2.1.bytes
  have e0 : M.bz (pageT d.F 0) 0 = d.F 0 := keepPage_bz hF (p := 0) (by omega) (by omega)
  have e15 : M.bz (pageT d.F 0) 15 = d.F 15 := keepPage_bz hF (p := 0) (by omega) (by omega)
  have f0 : M.bz (pageT d.F 1) 0 = d.F 16 := keepPage_bz hF (p := 1) (by omega) (by omega)
  have f15 : M.bz (pageT d.F 1) 15 = d.F 31 := keepPage_bz hF (p := 1) (by omega) (by omega)
  have z0 : (pageT d.F 0).size = 16 := keepPage_size (p := 0) (by omega)
  have z1 : (pageT d.F 1).size = 16 := keepPage_size (p := 1) (by omega)
  have HP0 := hide (slotsPage_any hF h.dev 0)
  have HP1 := hide (slotsPage_any hF h.dev 1)
  have hwa : ∃ wa : Bool, decide (M.bz (pageT d.F 0) 0 = M.bz (pageT d.F 0) 15) = wa := ⟨_, rfl⟩
  obtain ⟨wa, hwa⟩ := hwa
  have HW0 := hide (fun X : World => kWhole_any (pageT d.F 0) X z0 wa hwa)
  have hcw : wa = true ∨ (wa = false ∧ ∀ X : World, Calls Tryz.prog 62 #[.string (pageT d.F 1)] X fun e w' => e = .returned (.bool true) ∧ Below X.heap.size X w') := by
    cases hwx : wa with
    | true => exact .inl rfl
    | false =>
      refine .inr ⟨rfl, fun X => kWhole_any (pageT d.F 1) X z1 true (decide_eq_true ?_)⟩
      rw [hwx, e0, e15] at hwa
      have := of_decide_eq_false hwa
      rw [f0, f15]
      rcases hwh with h | h
      · exact absurd h this
      · exact h
  clear hwa e0 e15 f0 f15 z0 z1 hF hwh
  generalize pageT d.F 0 = PA at *
  generalize pageT d.F 1 = PB at *
  have HR := hide h
  have HG := hide hg
  have hlt := h.lt
  have hgl := (Array.getElem?_eq_some_iff.1 hg).1
  obtain ⟨hx0, hf0⟩ := block_facts h.run
  clear h hg
  rcases hcw with rfl | ⟨rfl, hw1⟩
  · go_enter Tryz.func45, Tryz.ntmps45
    (go_wp2_with fail); (refine (unhide HP0).mono ?_); (rintro e w' ⟨rfl, rfl⟩)
    (go_wp2_with fail); (refine (unhide HP1).mono ?_); (rintro e w' ⟨rfl, rfl⟩)
    (go_wp2_with fail)
    refine (unhide HW0 _).mono ?_
    rintro e w1 ⟨rfl, hb1⟩
    have HR1 := hide ((unhide HR).kept hb1)
    have HB1 := hide hb1
    have hsz1 := hb1.size
    clear hb1 HW0 HP0 HP1
    try clear HW1
    (go_wp2_with fail)
    refine (must_true _ _).mono ?_
    rintro e _ ⟨rfl, rfl⟩
    have HSS := hide (runStatus_any (unhide HR1))
    rw [HST.out] at HSS
    (go_wp2_with fail)
    refine (unhide HSS).mono ?_
    rintro e w3 ⟨rfl, hb3⟩
    have HR3 := hide ((unhide HR1).kept hb3)
    have HB3 := hide ((unhide HB1).trans (hb3.mono hsz1))
    have hsz3 := hb3.size
    obtain ⟨hx3, hf3⟩ := block_facts (unhide HR3).run
    clear hb3 HSS HR1 HB1
    clear hx0 hf0
    have KG3 := hide (kept_block (unhide HB3) (unhide HG))
    obtain ⟨hxg, hfg⟩ := block_facts (unhide KG3)
    have l1 : r < w3.heap.size := (by omega); have n1 : ¬ r = w3.heap.size := (by omega)
    have l2 : g < w3.heap.size := (by omega); have n2 : ¬ g = w3.heap.size := (by omega)
    have n3 : ¬ r = g := fun e => hgr e.symm
    (go_wp2_with fail)
    go_quiet ((go_at_call 22; exact Calls.quiet_of_same (unhide HMU _)))
    (go_wp2_with fail)
    refine (unhide HSV _ ((unhide HR3).kept (below_drewN ((Below.refl _ _).alloc (Nat.le_refl _) _) _))).mono ?_
    rintro e w9 ⟨rfl, hr9, ho9⟩
    have HR9 := hide hr9
    have HO9 := hide ho9
    have KG9 := (ho9.block g (by show g < (World.alloc _ _).heap.size; simp; omega) hgb).trans (below_drewN_block _ (ablk (unhide KG3)))
    have HKG := hide KG9
    clear hr9 ho9 KG9
    go_wp2
    refine bodyPost_end (v := .tuple #[]) (by simp [results, Tryz.results45, go_sem]) rfl ⟨rfl, unhide HR9, unhide HKG, ?_⟩
    refine Only.trans ?_ (only_both (unhide HO9))
    exact Only.of (below_drewN ((unhide HB3).alloc (by omega) _) _)
  · have HW1 := hide hw1
    clear hw1
    go_enter Tryz.func45, Tryz.ntmps45
    (go_wp2_with fail); (refine (unhide HP0).mono ?_); (rintro e w' ⟨rfl, rfl⟩)
    (go_wp2_with fail); (refine (unhide HP1).mono ?_); (rintro e w' ⟨rfl, rfl⟩)
    (go_wp2_with fail)
    refine (unhide HW0 _).mono ?_
    rintro e w1 ⟨rfl, hb1⟩
    have HBa := hide hb1
    clear hb1
    (go_wp2_with fail)
    refine (unhide HW1 _).mono ?_
    rintro e w2 ⟨rfl, hb2⟩
    have hb1 := (unhide HBa).trans (hb2.mono (unhide HBa).size)
    clear hb2 HBa
    generalize w2 = w1 at *
    have HR1 := hide ((unhide HR).kept hb1)
    have HB1 := hide hb1
    have hsz1 := hb1.size
    clear hb1 HW0 HP0 HP1
    try clear HW1
    (go_wp2_with fail)
    refine (must_true _ _).mono ?_
    rintro e _ ⟨rfl, rfl⟩
    have HSS := hide (runStatus_any (unhide HR1))
    rw [HST.out] at HSS
    (go_wp2_with fail)
    refine (unhide HSS).mono ?_
    rintro e w3 ⟨rfl, hb3⟩
    have HR3 := hide ((unhide HR1).kept hb3)
    have HB3 := hide ((unhide HB1).trans (hb3.mono hsz1))
    have hsz3 := hb3.size
    obtain ⟨hx3, hf3⟩ := block_facts (unhide HR3).run
    clear hb3 HSS HR1 HB1
    clear hx0 hf0
    have KG3 := hide (kept_block (unhide HB3) (unhide HG))
    obtain ⟨hxg, hfg⟩ := block_facts (unhide KG3)
    have l1 : r < w3.heap.size := (by omega); have n1 : ¬ r = w3.heap.size := (by omega)
    have l2 : g < w3.heap.size := (by omega); have n2 : ¬ g = w3.heap.size := (by omega)
    have n3 : ¬ r = g := fun e => hgr e.symm
    (go_wp2_with fail)
    go_quiet ((go_at_call 22; exact Calls.quiet_of_same (unhide HMU _)))
    (go_wp2_with fail)
    refine (unhide HSV _ ((unhide HR3).kept (below_drewN ((Below.refl _ _).alloc (Nat.le_refl _) _) _))).mono ?_
    rintro e w9 ⟨rfl, hr9, ho9⟩
    have HR9 := hide hr9
    have HO9 := hide ho9
    have KG9 := (ho9.block g (by show g < (World.alloc _ _).heap.size; simp; omega) hgb).trans (below_drewN_block _ (ablk (unhide KG3)))
    have HKG := hide KG9
    clear hr9 ho9 KG9
    go_wp2
    refine bodyPost_end (v := .tuple #[]) (by simp [results, Tryz.results45, go_sem]) rfl ⟨rfl, unhide HR9, unhide HKG, ?_⟩
    refine Only.trans ?_ (only_both (unhide HO9))
    exact Only.of (below_drewN ((unhide HB3).alloc (by omega) _) _)
set_option maxRecDepth 10000 in
set_option maxHeartbeats 1000000 in
theorem sound_d2 (h : RunRel W r b j ex inp d) (tr th : Nat) (hs : M.St j d 2 tr th false) (hj : M.JobOk j) (hin : inp.size ≤ maxLen) (hwh : d.F 0 = d.F 15 ∨ d.F 16 = d.F 31)
    (hg : W.heap[g]? = some (.cells #[.bool false, .bool false] 58 (0, 0))) (hgb : ¬ g = b) (hgr : ¬ g = r) :
    Calls Tryz.prog 45 #[.pointer (some ⟨r, 0, none⟩), .pointer (some ⟨g, 0, none⟩)] W fun e w' => e = .returned (.tuple #[]) ∧ RunRel w' r b j ex inp d ∧ w'.heap[g]? = some (.cells #[.bool false, .bool false] 58 (0, 0)) ∧ Only (Both b g) W w' := by
  have hvs := hs.served
  have hsv := (hs.kept)
  rw [show M.verP j 2 false = j.up from by simp [M.verP]] at hvs
  rw [show (if false = true then j.up else j.base) = j.base from by simp] at hsv
  have HST : Hid (statOf d = .agg #[.bool true, .int .i64 2, .int .i64 (M.servedD d.F), .int .i64 j.up, .int .i64 j.base, .int .i64 tr, .int .i64 (if M.fld d.F 2 = 1 then (M.missing d.F).length else 0 : Nat)]) := by
    show _ = _
    unfold statOf
    rw [if_pos hs.on]
    unfold statV
    rw [hvs, hsv, hs.phase, hs.tries]
    try rfl
  have HSV : Hid (∀ X : World, RunRel X r b j ex inp d → Calls Tryz.prog 15 #[.pointer (some ⟨r, 0, none⟩), .int .i64 j.up] X fun e w' => Goes X r b j ex inp d e w') := by
    intro X hX
    have := serves_st hj hX hs hin
    rwa [show M.verP j 2 false = j.up from by simp [M.verP]] at this
  have HMU : Hid (∀ X : World, Calls Tryz.prog 22 #[.pointer (some ⟨r, 0, none⟩), .bool true] X fun e w' => e = .returned (.tuple #[]) ∧ w' = X) := fun X => (must_true X r).mono fun e w' hh => ⟨hh.1, hh.2.symm⟩
  have hlu : ¬ (j.base : Int) = (j.up : Int) := by have := hj.less; omega
  have hlu2 : ¬ (j.up : Int) = (j.base : Int) := by omega
  have hbq : ((j.base : Int) == (j.up : Int)) = false := by simp [hlu]
  have hbq2 : ((j.up : Int) == (j.base : Int)) = false := by simp [hlu2]
  generalize (if M.fld d.F 2 = 1 then (M.missing d.F).length else 0 : Nat) = ms at *
  generalize M.servedD d.F = sd at *
  clear hvs hsv hs hj hin
  have hF := h.inv.2.1.bytes
  have e0 : M.bz (pageT d.F 0) 0 = d.F 0 := keepPage_bz hF (p := 0) (by omega) (by omega)
  have e15 : M.bz (pageT d.F 0) 15 = d.F 15 := keepPage_bz hF (p := 0) (by omega) (by omega)
  have f0 : M.bz (pageT d.F 1) 0 = d.F 16 := keepPage_bz hF (p := 1) (by omega) (by omega)
  have f15 : M.bz (pageT d.F 1) 15 = d.F 31 := keepPage_bz hF (p := 1) (by omega) (by omega)
  have z0 : (pageT d.F 0).size = 16 := keepPage_size (p := 0) (by omega)
  have z1 : (pageT d.F 1).size = 16 := keepPage_size (p := 1) (by omega)
  have HP0 := hide (slotsPage_any hF h.dev 0)
  have HP1 := hide (slotsPage_any hF h.dev 1)
  have hwa : ∃ wa : Bool, decide (M.bz (pageT d.F 0) 0 = M.bz (pageT d.F 0) 15) = wa := ⟨_, rfl⟩
  obtain ⟨wa, hwa⟩ := hwa
  have HW0 := hide (fun X : World => kWhole_any (pageT d.F 0) X z0 wa hwa)
  have hcw : wa = true ∨ (wa = false ∧ ∀ X : World, Calls Tryz.prog 62 #[.string (pageT d.F 1)] X fun e w' => e = .returned (.bool true) ∧ Below X.heap.size X w') := by
    cases hwx : wa with
    | true => exact .inl rfl
    | false =>
      refine .inr ⟨rfl, fun X => kWhole_any (pageT d.F 1) X z1 true (decide_eq_true ?_)⟩
      rw [hwx, e0, e15] at hwa
      have := of_decide_eq_false hwa
      rw [f0, f15]
      rcases hwh with h | h
      · exact absurd h this
      · exact h
  clear hwa e0 e15 f0 f15 z0 z1 hF hwh
  generalize pageT d.F 0 = PA at *
  generalize pageT d.F 1 = PB at *
  have HR := hide h
  have HG := hide hg
  have hlt := h.lt
  have hgl := (Array.getElem?_eq_some_iff.1 hg).1
  obtain ⟨hx0, hf0⟩ := block_facts h.run
  clear h hg
  rcases hcw with rfl | ⟨rfl, hw1⟩
  · go_enter Tryz.func45, Tryz.ntmps45
    (go_wp2_with fail); (refine (unhide HP0).mono ?_); (rintro e w' ⟨rfl, rfl⟩)
    (go_wp2_with fail); (refine (unhide HP1).mono ?_); (rintro e w' ⟨rfl, rfl⟩)
    (go_wp2_with fail)
    refine (unhide HW0 _).mono ?_
    rintro e w1 ⟨rfl, hb1⟩
    have HR1 := hide ((unhide HR).kept hb1)
    have HB1 := hide hb1
    have hsz1 := hb1.size
    clear hb1 HW0 HP0 HP1
    try clear HW1
    (go_wp2_with fail)
    refine (must_true _ _).mono ?_
    rintro e _ ⟨rfl, rfl⟩
    have HSS := hide (runStatus_any (unhide HR1))
    rw [HST.out] at HSS
    (go_wp2_with fail)
    refine (unhide HSS).mono ?_
    rintro e w3 ⟨rfl, hb3⟩
    have HR3 := hide ((unhide HR1).kept hb3)
    have HB3 := hide ((unhide HB1).trans (hb3.mono hsz1))
    have hsz3 := hb3.size
    obtain ⟨hx3, hf3⟩ := block_facts (unhide HR3).run
    clear hb3 HSS HR1 HB1
    clear hx0 hf0
    have KG3 := hide (kept_block (unhide HB3) (unhide HG))
    obtain ⟨hxg, hfg⟩ := block_facts (unhide KG3)
    have l1 : r < w3.heap.size := (by omega); have n1 : ¬ r = w3.heap.size := (by omega)
    have l2 : g < w3.heap.size := (by omega); have n2 : ¬ g = w3.heap.size := (by omega)
    have n3 : ¬ r = g := fun e => hgr e.symm
    (go_wp2_with fail)
    go_quiet ((go_at_call 22; exact Calls.quiet_of_same (unhide HMU _)))
    (go_wp2_with fail)
    refine (unhide HSV _ ((unhide HR3).kept (below_drewN ((Below.refl _ _).alloc (Nat.le_refl _) _) _))).mono ?_
    rintro e w9 ⟨rfl, hr9, ho9⟩
    have HR9 := hide hr9
    have HO9 := hide ho9
    have KG9 := (ho9.block g (by show g < (World.alloc _ _).heap.size; simp; omega) hgb).trans (below_drewN_block _ (ablk (unhide KG3)))
    have HKG := hide KG9
    clear hr9 ho9 KG9
    go_wp2
    refine bodyPost_end (v := .tuple #[]) (by simp [results, Tryz.results45, go_sem]) rfl ⟨rfl, unhide HR9, unhide HKG, ?_⟩
    refine Only.trans ?_ (only_both (unhide HO9))
    exact Only.of (below_drewN ((unhide HB3).alloc (by omega) _) _)
  · have HW1 := hide hw1
    clear hw1
    go_enter Tryz.func45, Tryz.ntmps45
    (go_wp2_with fail); (refine (unhide HP0).mono ?_); (rintro e w' ⟨rfl, rfl⟩)
    (go_wp2_with fail); (refine (unhide HP1).mono ?_); (rintro e w' ⟨rfl, rfl⟩)
    (go_wp2_with fail)
    refine (unhide HW0 _).mono ?_
    rintro e w1 ⟨rfl, hb1⟩
    have HBa := hide hb1
    clear hb1
    (go_wp2_with fail)
    refine (unhide HW1 _).mono ?_
    rintro e w2 ⟨rfl, hb2⟩
    have hb1 := (unhide HBa).trans (hb2.mono (unhide HBa).size)
    clear hb2 HBa
    generalize w2 = w1 at *
    have HR1 := hide ((unhide HR).kept hb1)
    have HB1 := hide hb1
    have hsz1 := hb1.size
    clear hb1 HW0 HP0 HP1
    try clear HW1
    (go_wp2_with fail)
    refine (must_true _ _).mono ?_
    rintro e _ ⟨rfl, rfl⟩
    have HSS := hide (runStatus_any (unhide HR1))
    rw [HST.out] at HSS
    (go_wp2_with fail)
    refine (unhide HSS).mono ?_
    rintro e w3 ⟨rfl, hb3⟩
    have HR3 := hide ((unhide HR1).kept hb3)
    have HB3 := hide ((unhide HB1).trans (hb3.mono hsz1))
    have hsz3 := hb3.size
    obtain ⟨hx3, hf3⟩ := block_facts (unhide HR3).run
    clear hb3 HSS HR1 HB1
    clear hx0 hf0
    have KG3 := hide (kept_block (unhide HB3) (unhide HG))
    obtain ⟨hxg, hfg⟩ := block_facts (unhide KG3)
    have l1 : r < w3.heap.size := (by omega); have n1 : ¬ r = w3.heap.size := (by omega)
    have l2 : g < w3.heap.size := (by omega); have n2 : ¬ g = w3.heap.size := (by omega)
    have n3 : ¬ r = g := fun e => hgr e.symm
    (go_wp2_with fail)
    go_quiet ((go_at_call 22; exact Calls.quiet_of_same (unhide HMU _)))
    (go_wp2_with fail)
    refine (unhide HSV _ ((unhide HR3).kept (below_drewN ((Below.refl _ _).alloc (Nat.le_refl _) _) _))).mono ?_
    rintro e w9 ⟨rfl, hr9, ho9⟩
    have HR9 := hide hr9
    have HO9 := hide ho9
    have KG9 := (ho9.block g (by show g < (World.alloc _ _).heap.size; simp; omega) hgb).trans (below_drewN_block _ (ablk (unhide KG3)))
    have HKG := hide KG9
    clear hr9 ho9 KG9
    go_wp2
    refine bodyPost_end (v := .tuple #[]) (by simp [results, Tryz.results45, go_sem]) rfl ⟨rfl, unhide HR9, unhide HKG, ?_⟩
    refine Only.trans ?_ (only_both (unhide HO9))
    exact Only.of (below_drewN ((unhide HB3).alloc (by omega) _) _)
set_option maxRecDepth 10000 in
set_option maxHeartbeats 1000000 in
theorem sound_d1 (h : RunRel W r b j ex inp d) (ph : Nat) (hp2 : ¬ ph = 2) (tr th : Nat) (hs : M.St j d (ph : Nat) tr th false) (hj : M.JobOk j) (hin : inp.size ≤ maxLen) (hwh : d.F 0 = d.F 15 ∨ d.F 16 = d.F 31)
    (hg : W.heap[g]? = some (.cells #[.bool false, .bool false] 58 (0, 0))) (hgb : ¬ g = b) (hgr : ¬ g = r) :
    Calls Tryz.prog 45 #[.pointer (some ⟨r, 0, none⟩), .pointer (some ⟨g, 0, none⟩)] W fun e w' => e = .returned (.tuple #[]) ∧ RunRel w' r b j ex inp d ∧ w'.heap[g]? = some (.cells #[.bool false, .bool false] 58 (0, 0)) ∧ Only (Both b g) W w' := by
  have hvs := hs.served
  have hsv := (hs.kept)
  rw [show M.verP j (ph : Nat) false = j.base from by simp [M.verP, hp2]] at hvs
  rw [show (if false = true then j.up else j.base) = j.base from by simp] at hsv
  have HST : Hid (statOf d = .agg #[.bool true, .int .i64 (ph : Nat), .int .i64 (M.servedD d.F), .int .i64 j.base, .int .i64 j.base, .int .i64 tr, .int .i64 (if M.fld d.F 2 = 1 then (M.missing d.F).length else 0 : Nat)]) := by
    show _ = _
    unfold statOf
    rw [if_pos hs.on]
    unfold statV
    rw [hvs, hsv, hs.phase, hs.tries]
    try rfl
  have HSV : Hid (∀ X : World, RunRel X r b j ex inp d → Calls Tryz.prog 15 #[.pointer (some ⟨r, 0, none⟩), .int .i64 j.base] X fun e w' => Goes X r b j ex inp d e w') := by
    intro X hX
    have := serves_st hj hX hs hin
    rwa [show M.verP j (ph : Nat) false = j.base from by simp [M.verP, hp2]] at this
  have HMU : Hid (∀ X : World, Calls Tryz.prog 22 #[.pointer (some ⟨r, 0, none⟩), .bool true] X fun e w' => e = .returned (.tuple #[]) ∧ w' = X) := fun X => (must_true X r).mono fun e w' hh => ⟨hh.1, hh.2.symm⟩
  have hlu : ¬ (j.base : Int) = (j.up : Int) := by have := hj.less; omega
  have hlu2 : ¬ (j.up : Int) = (j.base : Int) := by omega
  have hbq : ((j.base : Int) == (j.up : Int)) = false := by simp [hlu]
  have hbq2 : ((j.up : Int) == (j.base : Int)) = false := by simp [hlu2]
  generalize (if M.fld d.F 2 = 1 then (M.missing d.F).length else 0 : Nat) = ms at *
  generalize M.servedD d.F = sd at *
  clear hvs hsv hs hj hin
  have hF := h.inv.2.1.bytes
  have e0 : M.bz (pageT d.F 0) 0 = d.F 0 := keepPage_bz hF (p := 0) (by omega) (by omega)
  have e15 : M.bz (pageT d.F 0) 15 = d.F 15 := keepPage_bz hF (p := 0) (by omega) (by omega)
  have f0 : M.bz (pageT d.F 1) 0 = d.F 16 := keepPage_bz hF (p := 1) (by omega) (by omega)
  have f15 : M.bz (pageT d.F 1) 15 = d.F 31 := keepPage_bz hF (p := 1) (by omega) (by omega)
  have z0 : (pageT d.F 0).size = 16 := keepPage_size (p := 0) (by omega)
  have z1 : (pageT d.F 1).size = 16 := keepPage_size (p := 1) (by omega)
  have HP0 := hide (slotsPage_any hF h.dev 0)
  have HP1 := hide (slotsPage_any hF h.dev 1)
  have hwa : ∃ wa : Bool, decide (M.bz (pageT d.F 0) 0 = M.bz (pageT d.F 0) 15) = wa := ⟨_, rfl⟩
  obtain ⟨wa, hwa⟩ := hwa
  have HW0 := hide (fun X : World => kWhole_any (pageT d.F 0) X z0 wa hwa)
  have hcw : wa = true ∨ (wa = false ∧ ∀ X : World, Calls Tryz.prog 62 #[.string (pageT d.F 1)] X fun e w' => e = .returned (.bool true) ∧ Below X.heap.size X w') := by
    cases hwx : wa with
    | true => exact .inl rfl
    | false =>
      refine .inr ⟨rfl, fun X => kWhole_any (pageT d.F 1) X z1 true (decide_eq_true ?_)⟩
      rw [hwx, e0, e15] at hwa
      have := of_decide_eq_false hwa
      rw [f0, f15]
      rcases hwh with h | h
      · exact absurd h this
      · exact h
  clear hwa e0 e15 f0 f15 z0 z1 hF hwh
  generalize pageT d.F 0 = PA at *
  generalize pageT d.F 1 = PB at *
  have HR := hide h
  have HG := hide hg
  have hlt := h.lt
  have hgl := (Array.getElem?_eq_some_iff.1 hg).1
  obtain ⟨hx0, hf0⟩ := block_facts h.run
  clear h hg
  rcases hcw with rfl | ⟨rfl, hw1⟩
  · go_enter Tryz.func45, Tryz.ntmps45
    (go_wp2_with fail); (refine (unhide HP0).mono ?_); (rintro e w' ⟨rfl, rfl⟩)
    (go_wp2_with fail); (refine (unhide HP1).mono ?_); (rintro e w' ⟨rfl, rfl⟩)
    (go_wp2_with fail)
    refine (unhide HW0 _).mono ?_
    rintro e w1 ⟨rfl, hb1⟩
    have HR1 := hide ((unhide HR).kept hb1)
    have HB1 := hide hb1
    have hsz1 := hb1.size
    clear hb1 HW0 HP0 HP1
    try clear HW1
    (go_wp2_with fail)
    refine (must_true _ _).mono ?_
    rintro e _ ⟨rfl, rfl⟩
    have HSS := hide (runStatus_any (unhide HR1))
    rw [HST.out] at HSS
    (go_wp2_with fail)
    refine (unhide HSS).mono ?_
    rintro e w3 ⟨rfl, hb3⟩
    have HR3 := hide ((unhide HR1).kept hb3)
    have HB3 := hide ((unhide HB1).trans (hb3.mono hsz1))
    have hsz3 := hb3.size
    obtain ⟨hx3, hf3⟩ := block_facts (unhide HR3).run
    clear hb3 HSS HR1 HB1
    clear hx0 hf0
    have KG3 := hide (kept_block (unhide HB3) (unhide HG))
    obtain ⟨hxg, hfg⟩ := block_facts (unhide KG3)
    have l1 : r < w3.heap.size := (by omega); have n1 : ¬ r = w3.heap.size := (by omega)
    have l2 : g < w3.heap.size := (by omega); have n2 : ¬ g = w3.heap.size := (by omega)
    have n3 : ¬ r = g := fun e => hgr e.symm
    (go_wp2_with fail)
    go_quiet ((go_at_call 22; exact Calls.quiet_of_same (unhide HMU _)))
    (go_wp2_with fail)
    refine (unhide HSV _ ((unhide HR3).kept (below_drewN ((Below.refl _ _).alloc (Nat.le_refl _) _) _))).mono ?_
    rintro e w9 ⟨rfl, hr9, ho9⟩
    have HR9 := hide hr9
    have HO9 := hide ho9
    have KG9 := (ho9.block g (by show g < (World.alloc _ _).heap.size; simp; omega) hgb).trans (below_drewN_block _ (ablk (unhide KG3)))
    have HKG := hide KG9
    clear hr9 ho9 KG9
    go_wp2
    refine bodyPost_end (v := .tuple #[]) (by simp [results, Tryz.results45, go_sem]) rfl ⟨rfl, unhide HR9, unhide HKG, ?_⟩
    refine Only.trans ?_ (only_both (unhide HO9))
    exact Only.of (below_drewN ((unhide HB3).alloc (by omega) _) _)
  · have HW1 := hide hw1
    clear hw1
    go_enter Tryz.func45, Tryz.ntmps45
    (go_wp2_with fail); (refine (unhide HP0).mono ?_); (rintro e w' ⟨rfl, rfl⟩)
    (go_wp2_with fail); (refine (unhide HP1).mono ?_); (rintro e w' ⟨rfl, rfl⟩)
    (go_wp2_with fail)
    refine (unhide HW0 _).mono ?_
    rintro e w1 ⟨rfl, hb1⟩
    have HBa := hide hb1
    clear hb1
    (go_wp2_with fail)
    refine (unhide HW1 _).mono ?_
    rintro e w2 ⟨rfl, hb2⟩
    have hb1 := (unhide HBa).trans (hb2.mono (unhide HBa).size)
    clear hb2 HBa
    generalize w2 = w1 at *
    have HR1 := hide ((unhide HR).kept hb1)
    have HB1 := hide hb1
    have hsz1 := hb1.size
    clear hb1 HW0 HP0 HP1
    try clear HW1
    (go_wp2_with fail)
    refine (must_true _ _).mono ?_
    rintro e _ ⟨rfl, rfl⟩
    have HSS := hide (runStatus_any (unhide HR1))
    rw [HST.out] at HSS
    (go_wp2_with fail)
    refine (unhide HSS).mono ?_
    rintro e w3 ⟨rfl, hb3⟩
    have HR3 := hide ((unhide HR1).kept hb3)
    have HB3 := hide ((unhide HB1).trans (hb3.mono hsz1))
    have hsz3 := hb3.size
    obtain ⟨hx3, hf3⟩ := block_facts (unhide HR3).run
    clear hb3 HSS HR1 HB1
    clear hx0 hf0
    have KG3 := hide (kept_block (unhide HB3) (unhide HG))
    obtain ⟨hxg, hfg⟩ := block_facts (unhide KG3)
    have l1 : r < w3.heap.size := (by omega); have n1 : ¬ r = w3.heap.size := (by omega)
    have l2 : g < w3.heap.size := (by omega); have n2 : ¬ g = w3.heap.size := (by omega)
    have n3 : ¬ r = g := fun e => hgr e.symm
    (go_wp2_with fail)
    go_quiet ((go_at_call 22; exact Calls.quiet_of_same (unhide HMU _)))
    (go_wp2_with fail)
    refine (unhide HSV _ ((unhide HR3).kept (below_drewN ((Below.refl _ _).alloc (Nat.le_refl _) _) _))).mono ?_
    rintro e w9 ⟨rfl, hr9, ho9⟩
    have HR9 := hide hr9
    have HO9 := hide ho9
    have KG9 := (ho9.block g (by show g < (World.alloc _ _).heap.size; simp; omega) hgb).trans (below_drewN_block _ (ablk (unhide KG3)))
    have HKG := hide KG9
    clear hr9 ho9 KG9
    go_wp2
    refine bodyPost_end (v := .tuple #[]) (by simp [results, Tryz.results45, go_sem]) rfl ⟨rfl, unhide HR9, unhide HKG, ?_⟩
    refine Only.trans ?_ (only_both (unhide HO9))
    exact Only.of (below_drewN ((unhide HB3).alloc (by omega) _) _)
set_option maxRecDepth 10000 in
set_option maxHeartbeats 1000000 in
theorem sound_m0 (h : RunRel W r b j ex inp d) (tr th : Nat) (kp : Bool) (hs : M.St j d 0 tr th true) (hj : M.JobOk j) (hin : inp.size ≤ maxLen) (hwh : d.F 0 = d.F 15 ∨ d.F 16 = d.F 31)
    (hg : W.heap[g]? = some (.cells #[.bool kp, .bool true] 58 (0, 0))) (hgb : ¬ g = b) (hgr : ¬ g = r) :
    Calls Tryz.prog 45 #[.pointer (some ⟨r, 0, none⟩), .pointer (some ⟨g, 0, none⟩)] W fun e w' => e = .returned (.tuple #[]) ∧ RunRel w' r b j ex inp d ∧ w'.heap[g]? = some (.cells #[.bool true, .bool false] 58 (0, 0)) ∧ Only (Both b g) W w' := by
  have hvs := hs.served
  have hsv := (hs.kept)
  rw [show M.verP j 0 true = j.up from by simp [M.verP]] at hvs
  rw [show (if true = true then j.up else j.base) = j.up from by simp] at hsv
  have HST : Hid (statOf d = .agg #[.bool true, .int .i64 0, .int .i64 (M.servedD d.F), .int .i64 j.up, .int .i64 j.up, .int .i64 tr, .int .i64 (if M.fld d.F 2 = 1 then (M.missing d.F).length else 0 : Nat)]) := by
    show _ = _
    unfold statOf
    rw [if_pos hs.on]
    unfold statV
    rw [hvs, hsv, hs.phase, hs.tries]
    try rfl
  have HSV : Hid (∀ X : World, RunRel X r b j ex inp d → Calls Tryz.prog 15 #[.pointer (some ⟨r, 0, none⟩), .int .i64 j.up] X fun e w' => Goes X r b j ex inp d e w') := by
    intro X hX
    have := serves_st hj hX hs hin
    rwa [show M.verP j 0 true = j.up from by simp [M.verP]] at this
  have HMU : Hid (∀ X : World, Calls Tryz.prog 22 #[.pointer (some ⟨r, 0, none⟩), .bool true] X fun e w' => e = .returned (.tuple #[]) ∧ w' = X) := fun X => (must_true X r).mono fun e w' hh => ⟨hh.1, hh.2.symm⟩
  have hlu : ¬ (j.base : Int) = (j.up : Int) := by have := hj.less; omega
  have hlu2 : ¬ (j.up : Int) = (j.base : Int) := by omega
  have hbq : ((j.base : Int) == (j.up : Int)) = false := by simp [hlu]
  have hbq2 : ((j.up : Int) == (j.base : Int)) = false := by simp [hlu2]
  generalize (if M.fld d.F 2 = 1 then (M.missing d.F).length else 0 : Nat) = ms at *
  generalize M.servedD d.F = sd at *
  clear hvs hsv hs hj hin
  have hF := h.inv.2.1.bytes
  have e0 : M.bz (pageT d.F 0) 0 = d.F 0 := keepPage_bz hF (p := 0) (by omega) (by omega)
  have e15 : M.bz (pageT d.F 0) 15 = d.F 15 := keepPage_bz hF (p := 0) (by omega) (by omega)
  have f0 : M.bz (pageT d.F 1) 0 = d.F 16 := keepPage_bz hF (p := 1) (by omega) (by omega)
  have f15 : M.bz (pageT d.F 1) 15 = d.F 31 := keepPage_bz hF (p := 1) (by omega) (by omega)
  have z0 : (pageT d.F 0).size = 16 := keepPage_size (p := 0) (by omega)
  have z1 : (pageT d.F 1).size = 16 := keepPage_size (p := 1) (by omega)
  have HP0 := hide (slotsPage_any hF h.dev 0)
  have HP1 := hide (slotsPage_any hF h.dev 1)
  have hwa : ∃ wa : Bool, decide (M.bz (pageT d.F 0) 0 = M.bz (pageT d.F 0) 15) = wa := ⟨_, rfl⟩
  obtain ⟨wa, hwa⟩ := hwa
  have HW0 := hide (fun X : World => kWhole_any (pageT d.F 0) X z0 wa hwa)
  have hcw : wa = true ∨ (wa = false ∧ ∀ X : World, Calls Tryz.prog 62 #[.string (pageT d.F 1)] X fun e w' => e = .returned (.bool true) ∧ Below X.heap.size X w') := by
    cases hwx : wa with
    | true => exact .inl rfl
    | false =>
      refine .inr ⟨rfl, fun X => kWhole_any (pageT d.F 1) X z1 true (decide_eq_true ?_)⟩
      rw [hwx, e0, e15] at hwa
      have := of_decide_eq_false hwa
      rw [f0, f15]
      rcases hwh with h | h
      · exact absurd h this
      · exact h
  clear hwa e0 e15 f0 f15 z0 z1 hF hwh
  generalize pageT d.F 0 = PA at *
  generalize pageT d.F 1 = PB at *
  have HR := hide h
  have HG := hide hg
  have hlt := h.lt
  have hgl := (Array.getElem?_eq_some_iff.1 hg).1
  obtain ⟨hx0, hf0⟩ := block_facts h.run
  clear h hg
  rcases hcw with rfl | ⟨rfl, hw1⟩
  · go_enter Tryz.func45, Tryz.ntmps45
    (go_wp2_with fail); (refine (unhide HP0).mono ?_); (rintro e w' ⟨rfl, rfl⟩)
    (go_wp2_with fail); (refine (unhide HP1).mono ?_); (rintro e w' ⟨rfl, rfl⟩)
    (go_wp2_with fail)
    refine (unhide HW0 _).mono ?_
    rintro e w1 ⟨rfl, hb1⟩
    have HR1 := hide ((unhide HR).kept hb1)
    have HB1 := hide hb1
    have hsz1 := hb1.size
    clear hb1 HW0 HP0 HP1
    try clear HW1
    (go_wp2_with fail)
    refine (must_true _ _).mono ?_
    rintro e _ ⟨rfl, rfl⟩
    have HSS := hide (runStatus_any (unhide HR1))
    rw [HST.out] at HSS
    (go_wp2_with fail)
    refine (unhide HSS).mono ?_
    rintro e w3 ⟨rfl, hb3⟩
    have HR3 := hide ((unhide HR1).kept hb3)
    have HB3 := hide ((unhide HB1).trans (hb3.mono hsz1))
    have hsz3 := hb3.size
    obtain ⟨hx3, hf3⟩ := block_facts (unhide HR3).run
    clear hb3 HSS HR1 HB1
    clear hx0 hf0
    have KG3 := hide (kept_block (unhide HB3) (unhide HG))
    obtain ⟨hxg, hfg⟩ := block_facts (unhide KG3)
    have l1 : r < w3.heap.size := (by omega); have n1 : ¬ r = w3.heap.size := (by omega)
    have l2 : g < w3.heap.size := (by omega); have n2 : ¬ g = w3.heap.size := (by omega)
    have n3 : ¬ r = g := fun e => hgr e.symm
    (go_wp2_with fail)
    go_region
    (go_wp2_with fail)
    have HR4 : Hid (RunRel ((w3.setCell ⟨g, 0, none⟩ (.bool true)).setCell ⟨g, 1, none⟩ (.bool false)) r b j ex inp d) := watch_set (watch_set (unhide HR3) hgb hgr) hgb hgr
    have KG4 : Hid (((w3.setCell ⟨g, 0, none⟩ (.bool true)).setCell ⟨g, 1, none⟩ (.bool false)).heap[g]? = some (.cells #[.bool true, .bool false] 58 (0, 0))) := (setCell_in ((setCell_in (unhide KG3) 0 (.bool true)).trans rfl) 1 _).trans rfl
    have HO4 : Hid (Only (Both b g) W ((w3.setCell ⟨g, 0, none⟩ (.bool true)).setCell ⟨g, 1, none⟩ (.bool false))) := both_set (both_set (Only.of (unhide HB3)))
    have hs4 : ((w3.setCell ⟨g, 0, none⟩ (.bool true)).setCell ⟨g, 1, none⟩ (.bool false)).heap.size = w3.heap.size := by simp [World.setCell]
    have HR5 : Hid (RunRel (((w3.setCell ⟨g, 0, none⟩ (.bool true)).setCell ⟨g, 1, none⟩ (.bool false)).alloc (.cells #[.bool true, .int .i64 0, .int .i64 sd, .int .i64 j.up, .int .i64 j.up, .int .i64 tr, .int .i64 ms] 52)).drew r b j ex inp d) := (unhide HR4).kept ((Below.refl _ _).alloc (Nat.le_refl _) _).drew
    have KG5 : Hid ((((w3.setCell ⟨g, 0, none⟩ (.bool true)).setCell ⟨g, 1, none⟩ (.bool false)).alloc (.cells #[.bool true, .int .i64 0, .int .i64 sd, .int .i64 j.up, .int .i64 j.up, .int .i64 tr, .int .i64 ms] 52)).drew.heap[g]? = some (.cells #[.bool true, .bool false] 58 (0, 0))) := drew_block (ablk (unhide KG4))
    have KS5 : Hid ((((w3.setCell ⟨g, 0, none⟩ (.bool true)).setCell ⟨g, 1, none⟩ (.bool false)).alloc (.cells #[.bool true, .int .i64 0, .int .i64 sd, .int .i64 j.up, .int .i64 j.up, .int .i64 tr, .int .i64 ms] 52)).drew.heap[w3.heap.size]? = some (.cells #[.bool true, .int .i64 0, .int .i64 sd, .int .i64 j.up, .int .i64 j.up, .int .i64 tr, .int .i64 ms] 52)) := drew_block (last_block _ _ hs4.symm)
    have HO5 : Hid (Only (Both b g) W (((w3.setCell ⟨g, 0, none⟩ (.bool true)).setCell ⟨g, 1, none⟩ (.bool false)).alloc (.cells #[.bool true, .int .i64 0, .int .i64 sd, .int .i64 j.up, .int .i64 j.up, .int .i64 tr, .int .i64 ms] 52)).drew) := (unhide HO4).trans (Only.of ((Below.refl _ _).alloc (Nat.le_refl _) _).drew)
    clear hx3 hf3 hxg hfg KG3 HR3 HB3 hs4 HR4 KG4 HO4 hsz3 l1 n1 l2 n2
    generalize (((w3.setCell ⟨g, 0, none⟩ (.bool true)).setCell ⟨g, 1, none⟩ (.bool false)).alloc (.cells #[.bool true, .int .i64 0, .int .i64 sd, .int .i64 j.up, .int .i64 j.up, .int .i64 tr, .int .i64 ms] 52)).drew = w5 at *
    generalize w3.heap.size = s3 at *
    obtain ⟨hx3, hf3⟩ := block_facts (unhide HR5).run
    obtain ⟨hxg, hfg⟩ := block_facts (unhide KG5)
    obtain ⟨hxs, hfs⟩ := block_facts (unhide KS5)
    have l2 := (Array.getElem?_eq_some_iff.1 (unhide KG5)).1
    (go_wp2_with fail)
    go_quiet ((go_at_call 22; exact Calls.quiet_of_same (unhide HMU _)))
    (go_wp2_with fail)
    refine (unhide HSV _ ((unhide HR5).kept (below_drewN (Below.refl _ _) _))).mono ?_
    rintro e w9 ⟨rfl, hr9, ho9⟩
    have HR9 := hide hr9
    have HO9 := hide ho9
    have KG9 := (ho9.block g (l2) hgb).trans (below_drewN_block _ (unhide KG5))
    have HKG := hide KG9
    clear hr9 ho9 KG9
    go_wp2
    refine bodyPost_end (v := .tuple #[]) (by simp [results, Tryz.results45, go_sem]) rfl ⟨rfl, unhide HR9, unhide HKG, ?_⟩
    refine Only.trans ?_ (only_both (unhide HO9))
    exact (unhide HO5).trans (Only.of (below_drewN (Below.refl _ _) _))
  · have HW1 := hide hw1
    clear hw1
    go_enter Tryz.func45, Tryz.ntmps45
    (go_wp2_with fail); (refine (unhide HP0).mono ?_); (rintro e w' ⟨rfl, rfl⟩)
    (go_wp2_with fail); (refine (unhide HP1).mono ?_); (rintro e w' ⟨rfl, rfl⟩)
    (go_wp2_with fail)
    refine (unhide HW0 _).mono ?_
    rintro e w1 ⟨rfl, hb1⟩
    have HBa := hide hb1
    clear hb1
    (go_wp2_with fail)
    refine (unhide HW1 _).mono ?_
    rintro e w2 ⟨rfl, hb2⟩
    have hb1 := (unhide HBa).trans (hb2.mono (unhide HBa).size)
    clear hb2 HBa
    generalize w2 = w1 at *
    have HR1 := hide ((unhide HR).kept hb1)
    have HB1 := hide hb1
    have hsz1 := hb1.size
    clear hb1 HW0 HP0 HP1
    try clear HW1
    (go_wp2_with fail)
    refine (must_true _ _).mono ?_
    rintro e _ ⟨rfl, rfl⟩
    have HSS := hide (runStatus_any (unhide HR1))
    rw [HST.out] at HSS
    (go_wp2_with fail)
    refine (unhide HSS).mono ?_
    rintro e w3 ⟨rfl, hb3⟩
    have HR3 := hide ((unhide HR1).kept hb3)
    have HB3 := hide ((unhide HB1).trans (hb3.mono hsz1))
    have hsz3 := hb3.size
    obtain ⟨hx3, hf3⟩ := block_facts (unhide HR3).run
    clear hb3 HSS HR1 HB1
    clear hx0 hf0
    have KG3 := hide (kept_block (unhide HB3) (unhide HG))
    obtain ⟨hxg, hfg⟩ := block_facts (unhide KG3)
    have l1 : r < w3.heap.size := (by omega); have n1 : ¬ r = w3.heap.size := (by omega)
    have l2 : g < w3.heap.size := (by omega); have n2 : ¬ g = w3.heap.size := (by omega)
    have n3 : ¬ r = g := fun e => hgr e.symm
    (go_wp2_with fail)
    go_region
    (go_wp2_with fail)
    have HR4 : Hid (RunRel ((w3.setCell ⟨g, 0, none⟩ (.bool true)).setCell ⟨g, 1, none⟩ (.bool false)) r b j ex inp d) := watch_set (watch_set (unhide HR3) hgb hgr) hgb hgr
    have KG4 : Hid (((w3.setCell ⟨g, 0, none⟩ (.bool true)).setCell ⟨g, 1, none⟩ (.bool false)).heap[g]? = some (.cells #[.bool true, .bool false] 58 (0, 0))) := (setCell_in ((setCell_in (unhide KG3) 0 (.bool true)).trans rfl) 1 _).trans rfl
    have HO4 : Hid (Only (Both b g) W ((w3.setCell ⟨g, 0, none⟩ (.bool true)).setCell ⟨g, 1, none⟩ (.bool false))) := both_set (both_set (Only.of (unhide HB3)))
    have hs4 : ((w3.setCell ⟨g, 0, none⟩ (.bool true)).setCell ⟨g, 1, none⟩ (.bool false)).heap.size = w3.heap.size := by simp [World.setCell]
    have HR5 : Hid (RunRel (((w3.setCell ⟨g, 0, none⟩ (.bool true)).setCell ⟨g, 1, none⟩ (.bool false)).alloc (.cells #[.bool true, .int .i64 0, .int .i64 sd, .int .i64 j.up, .int .i64 j.up, .int .i64 tr, .int .i64 ms] 52)).drew r b j ex inp d) := (unhide HR4).kept ((Below.refl _ _).alloc (Nat.le_refl _) _).drew
    have KG5 : Hid ((((w3.setCell ⟨g, 0, none⟩ (.bool true)).setCell ⟨g, 1, none⟩ (.bool false)).alloc (.cells #[.bool true, .int .i64 0, .int .i64 sd, .int .i64 j.up, .int .i64 j.up, .int .i64 tr, .int .i64 ms] 52)).drew.heap[g]? = some (.cells #[.bool true, .bool false] 58 (0, 0))) := drew_block (ablk (unhide KG4))
    have KS5 : Hid ((((w3.setCell ⟨g, 0, none⟩ (.bool true)).setCell ⟨g, 1, none⟩ (.bool false)).alloc (.cells #[.bool true, .int .i64 0, .int .i64 sd, .int .i64 j.up, .int .i64 j.up, .int .i64 tr, .int .i64 ms] 52)).drew.heap[w3.heap.size]? = some (.cells #[.bool true, .int .i64 0, .int .i64 sd, .int .i64 j.up, .int .i64 j.up, .int .i64 tr, .int .i64 ms] 52)) := drew_block (last_block _ _ hs4.symm)
    have HO5 : Hid (Only (Both b g) W (((w3.setCell ⟨g, 0, none⟩ (.bool true)).setCell ⟨g, 1, none⟩ (.bool false)).alloc (.cells #[.bool true, .int .i64 0, .int .i64 sd, .int .i64 j.up, .int .i64 j.up, .int .i64 tr, .int .i64 ms] 52)).drew) := (unhide HO4).trans (Only.of ((Below.refl _ _).alloc (Nat.le_refl _) _).drew)
    clear hx3 hf3 hxg hfg KG3 HR3 HB3 hs4 HR4 KG4 HO4 hsz3 l1 n1 l2 n2
    generalize (((w3.setCell ⟨g, 0, none⟩ (.bool true)).setCell ⟨g, 1, none⟩ (.bool false)).alloc (.cells #[.bool true, .int .i64 0, .int .i64 sd, .int .i64 j.up, .int .i64 j.up, .int .i64 tr, .int .i64 ms] 52)).drew = w5 at *
    generalize w3.heap.size = s3 at *
    obtain ⟨hx3, hf3⟩ := block_facts (unhide HR5).run
    obtain ⟨hxg, hfg⟩ := block_facts (unhide KG5)
    obtain ⟨hxs, hfs⟩ := block_facts (unhide KS5)
    have l2 := (Array.getElem?_eq_some_iff.1 (unhide KG5)).1
    (go_wp2_with fail)
    go_quiet ((go_at_call 22; exact Calls.quiet_of_same (unhide HMU _)))
    (go_wp2_with fail)
    refine (unhide HSV _ ((unhide HR5).kept (below_drewN (Below.refl _ _) _))).mono ?_
    rintro e w9 ⟨rfl, hr9, ho9⟩
    have HR9 := hide hr9
    have HO9 := hide ho9
    have KG9 := (ho9.block g (l2) hgb).trans (below_drewN_block _ (unhide KG5))
    have HKG := hide KG9
    clear hr9 ho9 KG9
    go_wp2
    refine bodyPost_end (v := .tuple #[]) (by simp [results, Tryz.results45, go_sem]) rfl ⟨rfl, unhide HR9, unhide HKG, ?_⟩
    refine Only.trans ?_ (only_both (unhide HO9))
    exact (unhide HO5).trans (Only.of (below_drewN (Below.refl _ _) _))
set_option maxRecDepth 10000 in
set_option maxHeartbeats 1000000 in
theorem sound_m2 (h : RunRel W r b j ex inp d) (tr th : Nat) (kp : Bool) (hs : M.St j d 2 tr th false) (hj : M.JobOk j) (hin : inp.size ≤ maxLen) (hwh : d.F 0 = d.F 15 ∨ d.F 16 = d.F 31)
    (hg : W.heap[g]? = some (.cells #[.bool kp, .bool true] 58 (0, 0))) (hgb : ¬ g = b) (hgr : ¬ g = r) :
    Calls Tryz.prog 45 #[.pointer (some ⟨r, 0, none⟩), .pointer (some ⟨g, 0, none⟩)] W fun e w' => e = .returned (.tuple #[]) ∧ RunRel w' r b j ex inp d ∧ w'.heap[g]? = some (.cells #[.bool false, .bool false] 58 (0, 0)) ∧ Only (Both b g) W w' := by
  have hvs := hs.served
  have hsv := (hs.kept)
  rw [show M.verP j 2 false = j.up from by simp [M.verP]] at hvs
  rw [show (if false = true then j.up else j.base) = j.base from by simp] at hsv
  have HST : Hid (statOf d = .agg #[.bool true, .int .i64 2, .int .i64 (M.servedD d.F), .int .i64 j.up, .int .i64 j.base, .int .i64 tr, .int .i64 (if M.fld d.F 2 = 1 then (M.missing d.F).length else 0 : Nat)]) := by
    show _ = _
    unfold statOf
    rw [if_pos hs.on]
    unfold statV
    rw [hvs, hsv, hs.phase, hs.tries]
    try rfl
  have HSV : Hid (∀ X : World, RunRel X r b j ex inp d → Calls Tryz.prog 15 #[.pointer (some ⟨r, 0, none⟩), .int .i64 j.up] X fun e w' => Goes X r b j ex inp d e w') := by
    intro X hX
    have := serves_st hj hX hs hin
    rwa [show M.verP j 2 false = j.up from by simp [M.verP]] at this
  have HMU : Hid (∀ X : World, Calls Tryz.prog 22 #[.pointer (some ⟨r, 0, none⟩), .bool true] X fun e w' => e = .returned (.tuple #[]) ∧ w' = X) := fun X => (must_true X r).mono fun e w' hh => ⟨hh.1, hh.2.symm⟩
  have hlu : ¬ (j.base : Int) = (j.up : Int) := by have := hj.less; omega
  have hlu2 : ¬ (j.up : Int) = (j.base : Int) := by omega
  have hbq : ((j.base : Int) == (j.up : Int)) = false := by simp [hlu]
  have hbq2 : ((j.up : Int) == (j.base : Int)) = false := by simp [hlu2]
  generalize (if M.fld d.F 2 = 1 then (M.missing d.F).length else 0 : Nat) = ms at *
  generalize M.servedD d.F = sd at *
  clear hvs hsv hs hj hin
  have hF := h.inv.2.1.bytes
  have e0 : M.bz (pageT d.F 0) 0 = d.F 0 := keepPage_bz hF (p := 0) (by omega) (by omega)
  have e15 : M.bz (pageT d.F 0) 15 = d.F 15 := keepPage_bz hF (p := 0) (by omega) (by omega)
  have f0 : M.bz (pageT d.F 1) 0 = d.F 16 := keepPage_bz hF (p := 1) (by omega) (by omega)
  have f15 : M.bz (pageT d.F 1) 15 = d.F 31 := keepPage_bz hF (p := 1) (by omega) (by omega)
  have z0 : (pageT d.F 0).size = 16 := keepPage_size (p := 0) (by omega)
  have z1 : (pageT d.F 1).size = 16 := keepPage_size (p := 1) (by omega)
  have HP0 := hide (slotsPage_any hF h.dev 0)
  have HP1 := hide (slotsPage_any hF h.dev 1)
  have hwa : ∃ wa : Bool, decide (M.bz (pageT d.F 0) 0 = M.bz (pageT d.F 0) 15) = wa := ⟨_, rfl⟩
  obtain ⟨wa, hwa⟩ := hwa
  have HW0 := hide (fun X : World => kWhole_any (pageT d.F 0) X z0 wa hwa)
  have hcw : wa = true ∨ (wa = false ∧ ∀ X : World, Calls Tryz.prog 62 #[.string (pageT d.F 1)] X fun e w' => e = .returned (.bool true) ∧ Below X.heap.size X w') := by
    cases hwx : wa with
    | true => exact .inl rfl
    | false =>
      refine .inr ⟨rfl, fun X => kWhole_any (pageT d.F 1) X z1 true (decide_eq_true ?_)⟩
      rw [hwx, e0, e15] at hwa
      have := of_decide_eq_false hwa
      rw [f0, f15]
      rcases hwh with h | h
      · exact absurd h this
      · exact h
  clear hwa e0 e15 f0 f15 z0 z1 hF hwh
  generalize pageT d.F 0 = PA at *
  generalize pageT d.F 1 = PB at *
  have HR := hide h
  have HG := hide hg
  have hlt := h.lt
  have hgl := (Array.getElem?_eq_some_iff.1 hg).1
  obtain ⟨hx0, hf0⟩ := block_facts h.run
  clear h hg
  rcases hcw with rfl | ⟨rfl, hw1⟩
  · go_enter Tryz.func45, Tryz.ntmps45
    (go_wp2_with fail); (refine (unhide HP0).mono ?_); (rintro e w' ⟨rfl, rfl⟩)
    (go_wp2_with fail); (refine (unhide HP1).mono ?_); (rintro e w' ⟨rfl, rfl⟩)
    (go_wp2_with fail)
    refine (unhide HW0 _).mono ?_
    rintro e w1 ⟨rfl, hb1⟩
    have HR1 := hide ((unhide HR).kept hb1)
    have HB1 := hide hb1
    have hsz1 := hb1.size
    clear hb1 HW0 HP0 HP1
    try clear HW1
    (go_wp2_with fail)
    refine (must_true _ _).mono ?_
    rintro e _ ⟨rfl, rfl⟩
    have HSS := hide (runStatus_any (unhide HR1))
    rw [HST.out] at HSS
    (go_wp2_with fail)
    refine (unhide HSS).mono ?_
    rintro e w3 ⟨rfl, hb3⟩
    have HR3 := hide ((unhide HR1).kept hb3)
    have HB3 := hide ((unhide HB1).trans (hb3.mono hsz1))
    have hsz3 := hb3.size
    obtain ⟨hx3, hf3⟩ := block_facts (unhide HR3).run
    clear hb3 HSS HR1 HB1
    clear hx0 hf0
    have KG3 := hide (kept_block (unhide HB3) (unhide HG))
    obtain ⟨hxg, hfg⟩ := block_facts (unhide KG3)
    have l1 : r < w3.heap.size := (by omega); have n1 : ¬ r = w3.heap.size := (by omega)
    have l2 : g < w3.heap.size := (by omega); have n2 : ¬ g = w3.heap.size := (by omega)
    have n3 : ¬ r = g := fun e => hgr e.symm
    (go_wp2_with fail)
    go_region
    (go_wp2_with fail)
    have HR4 : Hid (RunRel ((w3.setCell ⟨g, 0, none⟩ (.bool false)).setCell ⟨g, 1, none⟩ (.bool false)) r b j ex inp d) := watch_set (watch_set (unhide HR3) hgb hgr) hgb hgr
    have KG4 : Hid (((w3.setCell ⟨g, 0, none⟩ (.bool false)).setCell ⟨g, 1, none⟩ (.bool false)).heap[g]? = some (.cells #[.bool false, .bool false] 58 (0, 0))) := (setCell_in ((setCell_in (unhide KG3) 0 (.bool false)).trans rfl) 1 _).trans rfl
    have HO4 : Hid (Only (Both b g) W ((w3.setCell ⟨g, 0, none⟩ (.bool false)).setCell ⟨g, 1, none⟩ (.bool false))) := both_set (both_set (Only.of (unhide HB3)))
    have hs4 : ((w3.setCell ⟨g, 0, none⟩ (.bool false)).setCell ⟨g, 1, none⟩ (.bool false)).heap.size = w3.heap.size := by simp [World.setCell]
    have HR5 : Hid (RunRel (((w3.setCell ⟨g, 0, none⟩ (.bool false)).setCell ⟨g, 1, none⟩ (.bool false)).alloc (.cells #[.bool true, .int .i64 2, .int .i64 sd, .int .i64 j.up, .int .i64 j.base, .int .i64 tr, .int .i64 ms] 52)).drew r b j ex inp d) := (unhide HR4).kept ((Below.refl _ _).alloc (Nat.le_refl _) _).drew
    have KG5 : Hid ((((w3.setCell ⟨g, 0, none⟩ (.bool false)).setCell ⟨g, 1, none⟩ (.bool false)).alloc (.cells #[.bool true, .int .i64 2, .int .i64 sd, .int .i64 j.up, .int .i64 j.base, .int .i64 tr, .int .i64 ms] 52)).drew.heap[g]? = some (.cells #[.bool false, .bool false] 58 (0, 0))) := drew_block (ablk (unhide KG4))
    have KS5 : Hid ((((w3.setCell ⟨g, 0, none⟩ (.bool false)).setCell ⟨g, 1, none⟩ (.bool false)).alloc (.cells #[.bool true, .int .i64 2, .int .i64 sd, .int .i64 j.up, .int .i64 j.base, .int .i64 tr, .int .i64 ms] 52)).drew.heap[w3.heap.size]? = some (.cells #[.bool true, .int .i64 2, .int .i64 sd, .int .i64 j.up, .int .i64 j.base, .int .i64 tr, .int .i64 ms] 52)) := drew_block (last_block _ _ hs4.symm)
    have HO5 : Hid (Only (Both b g) W (((w3.setCell ⟨g, 0, none⟩ (.bool false)).setCell ⟨g, 1, none⟩ (.bool false)).alloc (.cells #[.bool true, .int .i64 2, .int .i64 sd, .int .i64 j.up, .int .i64 j.base, .int .i64 tr, .int .i64 ms] 52)).drew) := (unhide HO4).trans (Only.of ((Below.refl _ _).alloc (Nat.le_refl _) _).drew)
    clear hx3 hf3 hxg hfg KG3 HR3 HB3 hs4 HR4 KG4 HO4 hsz3 l1 n1 l2 n2
    generalize (((w3.setCell ⟨g, 0, none⟩ (.bool false)).setCell ⟨g, 1, none⟩ (.bool false)).alloc (.cells #[.bool true, .int .i64 2, .int .i64 sd, .int .i64 j.up, .int .i64 j.base, .int .i64 tr, .int .i64 ms] 52)).drew = w5 at *
    generalize w3.heap.size = s3 at *
    obtain ⟨hx3, hf3⟩ := block_facts (unhide HR5).run
    obtain ⟨hxg, hfg⟩ := block_facts (unhide KG5)
    obtain ⟨hxs, hfs⟩ := block_facts (unhide KS5)
    have l2 := (Array.getElem?_eq_some_iff.1 (unhide KG5)).1
    (go_wp2_with fail)
    go_quiet ((go_at_call 22; exact Calls.quiet_of_same (unhide HMU _)))
    (go_wp2_with fail)
    refine (unhide HSV _ ((unhide HR5).kept (below_drewN (Below.refl _ _) _))).mono ?_
    rintro e w9 ⟨rfl, hr9, ho9⟩
    have HR9 := hide hr9
    have HO9 := hide ho9
    have KG9 := (ho9.block g (l2) hgb).trans (below_drewN_block _ (unhide KG5))
    have HKG := hide KG9
    clear hr9 ho9 KG9
    go_wp2
    refine bodyPost_end (v := .tuple #[]) (by simp [results, Tryz.results45, go_sem]) rfl ⟨rfl, unhide HR9, unhide HKG, ?_⟩
    refine Only.trans ?_ (only_both (unhide HO9))
    exact (unhide HO5).trans (Only.of (below_drewN (Below.refl _ _) _))
  · have HW1 := hide hw1
    clear hw1
    go_enter Tryz.func45, Tryz.ntmps45
    (go_wp2_with fail); (refine (unhide HP0).mono ?_); (rintro e w' ⟨rfl, rfl⟩)
    (go_wp2_with fail); (refine (unhide HP1).mono ?_); (rintro e w' ⟨rfl, rfl⟩)
    (go_wp2_with fail)
    refine (unhide HW0 _).mono ?_
    rintro e w1 ⟨rfl, hb1⟩
    have HBa := hide hb1
    clear hb1
    (go_wp2_with fail)
    refine (unhide HW1 _).mono ?_
    rintro e w2 ⟨rfl, hb2⟩
    have hb1 := (unhide HBa).trans (hb2.mono (unhide HBa).size)
    clear hb2 HBa
    generalize w2 = w1 at *
    have HR1 := hide ((unhide HR).kept hb1)
    have HB1 := hide hb1
    have hsz1 := hb1.size
    clear hb1 HW0 HP0 HP1
    try clear HW1
    (go_wp2_with fail)
    refine (must_true _ _).mono ?_
    rintro e _ ⟨rfl, rfl⟩
    have HSS := hide (runStatus_any (unhide HR1))
    rw [HST.out] at HSS
    (go_wp2_with fail)
    refine (unhide HSS).mono ?_
    rintro e w3 ⟨rfl, hb3⟩
    have HR3 := hide ((unhide HR1).kept hb3)
    have HB3 := hide ((unhide HB1).trans (hb3.mono hsz1))
    have hsz3 := hb3.size
    obtain ⟨hx3, hf3⟩ := block_facts (unhide HR3).run
    clear hb3 HSS HR1 HB1
    clear hx0 hf0
    have KG3 := hide (kept_block (unhide HB3) (unhide HG))
    obtain ⟨hxg, hfg⟩ := block_facts (unhide KG3)
    have l1 : r < w3.heap.size := (by omega); have n1 : ¬ r = w3.heap.size := (by omega)
    have l2 : g < w3.heap.size := (by omega); have n2 : ¬ g = w3.heap.size := (by omega)
    have n3 : ¬ r = g := fun e => hgr e.symm
    (go_wp2_with fail)
    go_region
    (go_wp2_with fail)
    have HR4 : Hid (RunRel ((w3.setCell ⟨g, 0, none⟩ (.bool false)).setCell ⟨g, 1, none⟩ (.bool false)) r b j ex inp d) := watch_set (watch_set (unhide HR3) hgb hgr) hgb hgr
    have KG4 : Hid (((w3.setCell ⟨g, 0, none⟩ (.bool false)).setCell ⟨g, 1, none⟩ (.bool false)).heap[g]? = some (.cells #[.bool false, .bool false] 58 (0, 0))) := (setCell_in ((setCell_in (unhide KG3) 0 (.bool false)).trans rfl) 1 _).trans rfl
    have HO4 : Hid (Only (Both b g) W ((w3.setCell ⟨g, 0, none⟩ (.bool false)).setCell ⟨g, 1, none⟩ (.bool false))) := both_set (both_set (Only.of (unhide HB3)))
    have hs4 : ((w3.setCell ⟨g, 0, none⟩ (.bool false)).setCell ⟨g, 1, none⟩ (.bool false)).heap.size = w3.heap.size := by simp [World.setCell]
    have HR5 : Hid (RunRel (((w3.setCell ⟨g, 0, none⟩ (.bool false)).setCell ⟨g, 1, none⟩ (.bool false)).alloc (.cells #[.bool true, .int .i64 2, .int .i64 sd, .int .i64 j.up, .int .i64 j.base, .int .i64 tr, .int .i64 ms] 52)).drew r b j ex inp d) := (unhide HR4).kept ((Below.refl _ _).alloc (Nat.le_refl _) _).drew
    have KG5 : Hid ((((w3.setCell ⟨g, 0, none⟩ (.bool false)).setCell ⟨g, 1, none⟩ (.bool false)).alloc (.cells #[.bool true, .int .i64 2, .int .i64 sd, .int .i64 j.up, .int .i64 j.base, .int .i64 tr, .int .i64 ms] 52)).drew.heap[g]? = some (.cells #[.bool false, .bool false] 58 (0, 0))) := drew_block (ablk (unhide KG4))
    have KS5 : Hid ((((w3.setCell ⟨g, 0, none⟩ (.bool false)).setCell ⟨g, 1, none⟩ (.bool false)).alloc (.cells #[.bool true, .int .i64 2, .int .i64 sd, .int .i64 j.up, .int .i64 j.base, .int .i64 tr, .int .i64 ms] 52)).drew.heap[w3.heap.size]? = some (.cells #[.bool true, .int .i64 2, .int .i64 sd, .int .i64 j.up, .int .i64 j.base, .int .i64 tr, .int .i64 ms] 52)) := drew_block (last_block _ _ hs4.symm)
    have HO5 : Hid (Only (Both b g) W (((w3.setCell ⟨g, 0, none⟩ (.bool false)).setCell ⟨g, 1, none⟩ (.bool false)).alloc (.cells #[.bool true, .int .i64 2, .int .i64 sd, .int .i64 j.up, .int .i64 j.base, .int .i64 tr, .int .i64 ms] 52)).drew) := (unhide HO4).trans (Only.of ((Below.refl _ _).alloc (Nat.le_refl _) _).drew)
    clear hx3 hf3 hxg hfg KG3 HR3 HB3 hs4 HR4 KG4 HO4 hsz3 l1 n1 l2 n2
    generalize (((w3.setCell ⟨g, 0, none⟩ (.bool false)).setCell ⟨g, 1, none⟩ (.bool false)).alloc (.cells #[.bool true, .int .i64 2, .int .i64 sd, .int .i64 j.up, .int .i64 j.base, .int .i64 tr, .int .i64 ms] 52)).drew = w5 at *
    generalize w3.heap.size = s3 at *
    obtain ⟨hx3, hf3⟩ := block_facts (unhide HR5).run
    obtain ⟨hxg, hfg⟩ := block_facts (unhide KG5)
    obtain ⟨hxs, hfs⟩ := block_facts (unhide KS5)
    have l2 := (Array.getElem?_eq_some_iff.1 (unhide KG5)).1
    (go_wp2_with fail)
    go_quiet ((go_at_call 22; exact Calls.quiet_of_same (unhide HMU _)))
    (go_wp2_with fail)
    refine (unhide HSV _ ((unhide HR5).kept (below_drewN (Below.refl _ _) _))).mono ?_
    rintro e w9 ⟨rfl, hr9, ho9⟩
    have HR9 := hide hr9
    have HO9 := hide ho9
    have KG9 := (ho9.block g (l2) hgb).trans (below_drewN_block _ (unhide KG5))
    have HKG := hide KG9
    clear hr9 ho9 KG9
    go_wp2
    refine bodyPost_end (v := .tuple #[]) (by simp [results, Tryz.results45, go_sem]) rfl ⟨rfl, unhide HR9, unhide HKG, ?_⟩
    refine Only.trans ?_ (only_both (unhide HO9))
    exact (unhide HO5).trans (Only.of (below_drewN (Below.refl _ _) _))
set_option maxRecDepth 10000 in
set_option maxHeartbeats 1000000 in
theorem sound_m1 (h : RunRel W r b j ex inp d) (ph : Nat) (hp2 : ¬ ph = 2) (tr th : Nat) (kp : Bool) (hs : M.St j d (ph : Nat) tr th false) (hj : M.JobOk j) (hin : inp.size ≤ maxLen) (hwh : d.F 0 = d.F 15 ∨ d.F 16 = d.F 31)
    (hg : W.heap[g]? = some (.cells #[.bool kp, .bool true] 58 (0, 0))) (hgb : ¬ g = b) (hgr : ¬ g = r) :
    Calls Tryz.prog 45 #[.pointer (some ⟨r, 0, none⟩), .pointer (some ⟨g, 0, none⟩)] W fun e w' => e = .returned (.tuple #[]) ∧ RunRel w' r b j ex inp d ∧ w'.heap[g]? = some (.cells #[.bool false, .bool false] 58 (0, 0)) ∧ Only (Both b g) W w' := by
  have hvs := hs.served
  have hsv := (hs.kept)
  rw [show M.verP j (ph : Nat) false = j.base from by simp [M.verP, hp2]] at hvs
  rw [show (if false = true then j.up else j.base) = j.base from by simp] at hsv
  have HST : Hid (statOf d = .agg #[.bool true, .int .i64 (ph : Nat), .int .i64 (M.servedD d.F), .int .i64 j.base, .int .i64 j.base, .int .i64 tr, .int .i64 (if M.fld d.F 2 = 1 then (M.missing d.F).length else 0 : Nat)]) := by
    show _ = _
    unfold statOf
    rw [if_pos hs.on]
    unfold statV
    rw [hvs, hsv, hs.phase, hs.tries]
    try rfl
  have HSV : Hid (∀ X : World, RunRel X r b j ex inp d → Calls Tryz.prog 15 #[.pointer (some ⟨r, 0, none⟩), .int .i64 j.base] X fun e w' => Goes X r b j ex inp d e w') := by
    intro X hX
    have := serves_st hj hX hs hin
    rwa [show M.verP j (ph : Nat) false = j.base from by simp [M.verP, hp2]] at this
  have HMU : Hid (∀ X : World, Calls Tryz.prog 22 #[.pointer (some ⟨r, 0, none⟩), .bool true] X fun e w' => e = .returned (.tuple #[]) ∧ w' = X) := fun X => (must_true X r).mono fun e w' hh => ⟨hh.1, hh.2.symm⟩
  have hlu : ¬ (j.base : Int) = (j.up : Int) := by have := hj.less; omega
  have hlu2 : ¬ (j.up : Int) = (j.base : Int) := by omega
  have hbq : ((j.base : Int) == (j.up : Int)) = false := by simp [hlu]
  have hbq2 : ((j.up : Int) == (j.base : Int)) = false := by simp [hlu2]
  generalize (if M.fld d.F 2 = 1 then (M.missing d.F).length else 0 : Nat) = ms at *
  generalize M.servedD d.F = sd at *
  clear hvs hsv hs hj hin
  have hF := h.inv.2.1.bytes
  have e0 : M.bz (pageT d.F 0) 0 = d.F 0 := keepPage_bz hF (p := 0) (by omega) (by omega)
  have e15 : M.bz (pageT d.F 0) 15 = d.F 15 := keepPage_bz hF (p := 0) (by omega) (by omega)
  have f0 : M.bz (pageT d.F 1) 0 = d.F 16 := keepPage_bz hF (p := 1) (by omega) (by omega)
  have f15 : M.bz (pageT d.F 1) 15 = d.F 31 := keepPage_bz hF (p := 1) (by omega) (by omega)
  have z0 : (pageT d.F 0).size = 16 := keepPage_size (p := 0) (by omega)
  have z1 : (pageT d.F 1).size = 16 := keepPage_size (p := 1) (by omega)
  have HP0 := hide (slotsPage_any hF h.dev 0)
  have HP1 := hide (slotsPage_any hF h.dev 1)
  have hwa : ∃ wa : Bool, decide (M.bz (pageT d.F 0) 0 = M.bz (pageT d.F 0) 15) = wa := ⟨_, rfl⟩
  obtain ⟨wa, hwa⟩ := hwa
  have HW0 := hide (fun X : World => kWhole_any (pageT d.F 0) X z0 wa hwa)
  have hcw : wa = true ∨ (wa = false ∧ ∀ X : World, Calls Tryz.prog 62 #[.string (pageT d.F 1)] X fun e w' => e = .returned (.bool true) ∧ Below X.heap.size X w') := by
    cases hwx : wa with
    | true => exact .inl rfl
    | false =>
      refine .inr ⟨rfl, fun X => kWhole_any (pageT d.F 1) X z1 true (decide_eq_true ?_)⟩
      rw [hwx, e0, e15] at hwa
      have := of_decide_eq_false hwa
      rw [f0, f15]
      rcases hwh with h | h
      · exact absurd h this
      · exact h
  clear hwa e0 e15 f0 f15 z0 z1 hF hwh
  generalize pageT d.F 0 = PA at *
  generalize pageT d.F 1 = PB at *
  have HR := hide h
  have HG := hide hg
  have hlt := h.lt
  have hgl := (Array.getElem?_eq_some_iff.1 hg).1
  obtain ⟨hx0, hf0⟩ := block_facts h.run
  clear h hg
  rcases hcw with rfl | ⟨rfl, hw1⟩
  · go_enter Tryz.func45, Tryz.ntmps45
    (go_wp2_with fail); (refine (unhide HP0).mono ?_); (rintro e w' ⟨rfl, rfl⟩)
    (go_wp2_with fail); (refine (unhide HP1).mono ?_); (rintro e w' ⟨rfl, rfl⟩)
    (go_wp2_with fail)
    refine (unhide HW0 _).mono ?_
    rintro e w1 ⟨rfl, hb1⟩
    have HR1 := hide ((unhide HR).kept hb1)
    have HB1 := hide hb1
    have hsz1 := hb1.size
    clear hb1 HW0 HP0 HP1
    try clear HW1
    (go_wp2_with fail)
    refine (must_true _ _).mono ?_
    rintro e _ ⟨rfl, rfl⟩
    have HSS := hide (runStatus_any (unhide HR1))
    rw [HST.out] at HSS
    (go_wp2_with fail)
    refine (unhide HSS).mono ?_
    rintro e w3 ⟨rfl, hb3⟩
    have HR3 := hide ((unhide HR1).kept hb3)
    have HB3 := hide ((unhide HB1).trans (hb3.mono hsz1))
    have hsz3 := hb3.size
    obtain ⟨hx3, hf3⟩ := block_facts (unhide HR3).run
    clear hb3 HSS HR1 HB1
    clear hx0 hf0
    have KG3 := hide (kept_block (unhide HB3) (unhide HG))
    obtain ⟨hxg, hfg⟩ := block_facts (unhide KG3)
    have l1 : r < w3.heap.size := (by omega); have n1 : ¬ r = w3.heap.size := (by omega)
    have l2 : g < w3.heap.size := (by omega); have n2 : ¬ g = w3.heap.size := (by omega)
    have n3 : ¬ r = g := fun e => hgr e.symm
    (go_wp2_with fail)
    go_region
    (go_wp2_with fail)
    have HR4 : Hid (RunRel ((w3.setCell ⟨g, 0, none⟩ (.bool false)).setCell ⟨g, 1, none⟩ (.bool false)) r b j ex inp d) := watch_set (watch_set (unhide HR3) hgb hgr) hgb hgr
    have KG4 : Hid (((w3.setCell ⟨g, 0, none⟩ (.bool false)).setCell ⟨g, 1, none⟩ (.bool false)).heap[g]? = some (.cells #[.bool false, .bool false] 58 (0, 0))) := (setCell_in ((setCell_in (unhide KG3) 0 (.bool false)).trans rfl) 1 _).trans rfl
    have HO4 : Hid (Only (Both b g) W ((w3.setCell ⟨g, 0, none⟩ (.bool false)).setCell ⟨g, 1, none⟩ (.bool false))) := both_set (both_set (Only.of (unhide HB3)))
    have hs4 : ((w3.setCell ⟨g, 0, none⟩ (.bool false)).setCell ⟨g, 1, none⟩ (.bool false)).heap.size = w3.heap.size := by simp [World.setCell]
    have HR5 : Hid (RunRel (((w3.setCell ⟨g, 0, none⟩ (.bool false)).setCell ⟨g, 1, none⟩ (.bool false)).alloc (.cells #[.bool true, .int .i64 (ph : Nat), .int .i64 sd, .int .i64 j.base, .int .i64 j.base, .int .i64 tr, .int .i64 ms] 52)).drew r b j ex inp d) := (unhide HR4).kept ((Below.refl _ _).alloc (Nat.le_refl _) _).drew
    have KG5 : Hid ((((w3.setCell ⟨g, 0, none⟩ (.bool false)).setCell ⟨g, 1, none⟩ (.bool false)).alloc (.cells #[.bool true, .int .i64 (ph : Nat), .int .i64 sd, .int .i64 j.base, .int .i64 j.base, .int .i64 tr, .int .i64 ms] 52)).drew.heap[g]? = some (.cells #[.bool false, .bool false] 58 (0, 0))) := drew_block (ablk (unhide KG4))
    have KS5 : Hid ((((w3.setCell ⟨g, 0, none⟩ (.bool false)).setCell ⟨g, 1, none⟩ (.bool false)).alloc (.cells #[.bool true, .int .i64 (ph : Nat), .int .i64 sd, .int .i64 j.base, .int .i64 j.base, .int .i64 tr, .int .i64 ms] 52)).drew.heap[w3.heap.size]? = some (.cells #[.bool true, .int .i64 (ph : Nat), .int .i64 sd, .int .i64 j.base, .int .i64 j.base, .int .i64 tr, .int .i64 ms] 52)) := drew_block (last_block _ _ hs4.symm)
    have HO5 : Hid (Only (Both b g) W (((w3.setCell ⟨g, 0, none⟩ (.bool false)).setCell ⟨g, 1, none⟩ (.bool false)).alloc (.cells #[.bool true, .int .i64 (ph : Nat), .int .i64 sd, .int .i64 j.base, .int .i64 j.base, .int .i64 tr, .int .i64 ms] 52)).drew) := (unhide HO4).trans (Only.of ((Below.refl _ _).alloc (Nat.le_refl _) _).drew)
    clear hx3 hf3 hxg hfg KG3 HR3 HB3 hs4 HR4 KG4 HO4 hsz3 l1 n1 l2 n2
    generalize (((w3.setCell ⟨g, 0, none⟩ (.bool false)).setCell ⟨g, 1, none⟩ (.bool false)).alloc (.cells #[.bool true, .int .i64 (ph : Nat), .int .i64 sd, .int .i64 j.base, .int .i64 j.base, .int .i64 tr, .int .i64 ms] 52)).drew = w5 at *
    generalize w3.heap.size = s3 at *
    obtain ⟨hx3, hf3⟩ := block_facts (unhide HR5).run
    obtain ⟨hxg, hfg⟩ := block_facts (unhide KG5)
    obtain ⟨hxs, hfs⟩ := block_facts (unhide KS5)
    have l2 := (Array.getElem?_eq_some_iff.1 (unhide KG5)).1
    (go_wp2_with fail)
    go_quiet ((go_at_call 22; exact Calls.quiet_of_same (unhide HMU _)))
    (go_wp2_with fail)
    refine (unhide HSV _ ((unhide HR5).kept (below_drewN (Below.refl _ _) _))).mono ?_
    rintro e w9 ⟨rfl, hr9, ho9⟩
    have HR9 := hide hr9
    have HO9 := hide ho9
    have KG9 := (ho9.block g (l2) hgb).trans (below_drewN_block _ (unhide KG5))
    have HKG := hide KG9
    clear hr9 ho9 KG9
    go_wp2
    refine bodyPost_end (v := .tuple #[]) (by simp [results, Tryz.results45, go_sem]) rfl ⟨rfl, unhide HR9, unhide HKG, ?_⟩
    refine Only.trans ?_ (only_both (unhide HO9))
    exact (unhide HO5).trans (Only.of (below_drewN (Below.refl _ _) _))
  · have HW1 := hide hw1
    clear hw1
    go_enter Tryz.func45, Tryz.ntmps45
    (go_wp2_with fail); (refine (unhide HP0).mono ?_); (rintro e w' ⟨rfl, rfl⟩)
    (go_wp2_with fail); (refine (unhide HP1).mono ?_); (rintro e w' ⟨rfl, rfl⟩)
    (go_wp2_with fail)
    refine (unhide HW0 _).mono ?_
    rintro e w1 ⟨rfl, hb1⟩
    have HBa := hide hb1
    clear hb1
    (go_wp2_with fail)
    refine (unhide HW1 _).mono ?_
    rintro e w2 ⟨rfl, hb2⟩
    have hb1 := (unhide HBa).trans (hb2.mono (unhide HBa).size)
    clear hb2 HBa
    generalize w2 = w1 at *
    have HR1 := hide ((unhide HR).kept hb1)
    have HB1 := hide hb1
    have hsz1 := hb1.size
    clear hb1 HW0 HP0 HP1
    try clear HW1
    (go_wp2_with fail)
    refine (must_true _ _).mono ?_
    rintro e _ ⟨rfl, rfl⟩
    have HSS := hide (runStatus_any (unhide HR1))
    rw [HST.out] at HSS
    (go_wp2_with fail)
    refine (unhide HSS).mono ?_
    rintro e w3 ⟨rfl, hb3⟩
    have HR3 := hide ((unhide HR1).kept hb3)
    have HB3 := hide ((unhide HB1).trans (hb3.mono hsz1))
    have hsz3 := hb3.size
    obtain ⟨hx3, hf3⟩ := block_facts (unhide HR3).run
    clear hb3 HSS HR1 HB1
    clear hx0 hf0
    have KG3 := hide (kept_block (unhide HB3) (unhide HG))
    obtain ⟨hxg, hfg⟩ := block_facts (unhide KG3)
    have l1 : r < w3.heap.size := (by omega); have n1 : ¬ r = w3.heap.size := (by omega)
    have l2 : g < w3.heap.size := (by omega); have n2 : ¬ g = w3.heap.size := (by omega)
    have n3 : ¬ r = g := fun e => hgr e.symm
    (go_wp2_with fail)
    go_region
    (go_wp2_with fail)
    have HR4 : Hid (RunRel ((w3.setCell ⟨g, 0, none⟩ (.bool false)).setCell ⟨g, 1, none⟩ (.bool false)) r b j ex inp d) := watch_set (watch_set (unhide HR3) hgb hgr) hgb hgr
    have KG4 : Hid (((w3.setCell ⟨g, 0, none⟩ (.bool false)).setCell ⟨g, 1, none⟩ (.bool false)).heap[g]? = some (.cells #[.bool false, .bool false] 58 (0, 0))) := (setCell_in ((setCell_in (unhide KG3) 0 (.bool false)).trans rfl) 1 _).trans rfl
    have HO4 : Hid (Only (Both b g) W ((w3.setCell ⟨g, 0, none⟩ (.bool false)).setCell ⟨g, 1, none⟩ (.bool false))) := both_set (both_set (Only.of (unhide HB3)))
    have hs4 : ((w3.setCell ⟨g, 0, none⟩ (.bool false)).setCell ⟨g, 1, none⟩ (.bool false)).heap.size = w3.heap.size := by simp [World.setCell]
    have HR5 : Hid (RunRel (((w3.setCell ⟨g, 0, none⟩ (.bool false)).setCell ⟨g, 1, none⟩ (.bool false)).alloc (.cells #[.bool true, .int .i64 (ph : Nat), .int .i64 sd, .int .i64 j.base, .int .i64 j.base, .int .i64 tr, .int .i64 ms] 52)).drew r b j ex inp d) := (unhide HR4).kept ((Below.refl _ _).alloc (Nat.le_refl _) _).drew
    have KG5 : Hid ((((w3.setCell ⟨g, 0, none⟩ (.bool false)).setCell ⟨g, 1, none⟩ (.bool false)).alloc (.cells #[.bool true, .int .i64 (ph : Nat), .int .i64 sd, .int .i64 j.base, .int .i64 j.base, .int .i64 tr, .int .i64 ms] 52)).drew.heap[g]? = some (.cells #[.bool false, .bool false] 58 (0, 0))) := drew_block (ablk (unhide KG4))
    have KS5 : Hid ((((w3.setCell ⟨g, 0, none⟩ (.bool false)).setCell ⟨g, 1, none⟩ (.bool false)).alloc (.cells #[.bool true, .int .i64 (ph : Nat), .int .i64 sd, .int .i64 j.base, .int .i64 j.base, .int .i64 tr, .int .i64 ms] 52)).drew.heap[w3.heap.size]? = some (.cells #[.bool true, .int .i64 (ph : Nat), .int .i64 sd, .int .i64 j.base, .int .i64 j.base, .int .i64 tr, .int .i64 ms] 52)) := drew_block (last_block _ _ hs4.symm)
    have HO5 : Hid (Only (Both b g) W (((w3.setCell ⟨g, 0, none⟩ (.bool false)).setCell ⟨g, 1, none⟩ (.bool false)).alloc (.cells #[.bool true, .int .i64 (ph : Nat), .int .i64 sd, .int .i64 j.base, .int .i64 j.base, .int .i64 tr, .int .i64 ms] 52)).drew) := (unhide HO4).trans (Only.of ((Below.refl _ _).alloc (Nat.le_refl _) _).drew)
    clear hx3 hf3 hxg hfg KG3 HR3 HB3 hs4 HR4 KG4 HO4 hsz3 l1 n1 l2 n2
    generalize (((w3.setCell ⟨g, 0, none⟩ (.bool false)).setCell ⟨g, 1, none⟩ (.bool false)).alloc (.cells #[.bool true, .int .i64 (ph : Nat), .int .i64 sd, .int .i64 j.base, .int .i64 j.base, .int .i64 tr, .int .i64 ms] 52)).drew = w5 at *
    generalize w3.heap.size = s3 at *
    obtain ⟨hx3, hf3⟩ := block_facts (unhide HR5).run
    obtain ⟨hxg, hfg⟩ := block_facts (unhide KG5)
    obtain ⟨hxs, hfs⟩ := block_facts (unhide KS5)
    have l2 := (Array.getElem?_eq_some_iff.1 (unhide KG5)).1
    (go_wp2_with fail)
    go_quiet ((go_at_call 22; exact Calls.quiet_of_same (unhide HMU _)))
    (go_wp2_with fail)
    refine (unhide HSV _ ((unhide HR5).kept (below_drewN (Below.refl _ _) _))).mono ?_
    rintro e w9 ⟨rfl, hr9, ho9⟩
    have HR9 := hide hr9
    have HO9 := hide ho9
    have KG9 := (ho9.block g (l2) hgb).trans (below_drewN_block _ (unhide KG5))
    have HKG := hide KG9
    clear hr9 ho9 KG9
    go_wp2
    refine bodyPost_end (v := .tuple #[]) (by simp [results, Tryz.results45, go_sem]) rfl ⟨rfl, unhide HR9, unhide HKG, ?_⟩
    refine Only.trans ?_ (only_both (unhide HO9))
    exact (unhide HO5).trans (Only.of (below_drewN (Below.refl _ _) _))
end
end Go.Proofs.YtjfmiomopfjecabGreat

/- One event, at which the power may fail. -/
namespace Go.Proofs.YtjfmiomopfjecabGreat
open Go.RowKit Go.Lib

/-- behind an event: the watch tells what is kept, or the power is off -/
def SoundPost (X : World) (r b g : Nat) (j : M.Job) (ex inp : ByteArray) (d : M.Dev) (e : Ending) (w' : World) : Prop :=
  e = .returned (.tuple #[]) ∧ ∃ kp may : Bool, RunRel w' r b j ex inp d ∧ w'.heap[g]? = some (.cells #[.bool kp, .bool may] 58 (0, 0)) ∧ Only (Both b g) X w' ∧ (may = false → M.upB j d = kp) ∧ (d.on = true → may = false)
section
variable {W : World} {r b g : Nat} {j : M.Job} {ex inp : ByteArray} {d : M.Dev}
theorem sound_st (hj : M.JobOk j) (hin : inp.size ≤ maxLen) (h : RunRel W r b j ex inp d) (hl : M.Lv j d) (kp may : Bool) (hg : W.heap[g]? = some (.cells #[.bool kp, .bool may] 58 (0, 0))) (hgb : ¬ g = b) (hgr : ¬ g = r) (ht : may = false → M.upB j d = kp) :
    Calls Tryz.prog 45 #[.pointer (some ⟨r, 0, none⟩), .pointer (some ⟨g, 0, none⟩)] W fun e w' => SoundPost W r b g j ex inp d e w' := by
  have hwh := M.lv_whole hl
  cases hon : d.on with
  | false =>
    refine (sound_off h hon hwh).mono fun e w' ⟨he, hb⟩ => ⟨he, kp, may, h.kept hb, kept_block hb hg, Only.of hb, ht, fun hh => ?_⟩
    rw [hon] at hh
    cases hh
  | true =>
    rcases M.lv_cases hj hl hon with ⟨hu, hs⟩ | ⟨hu, hp, hs⟩ | ⟨hu, hp, hs⟩ | ⟨hu, hp, hs⟩
    · cases may with
      | false =>
        have e : kp = true := (ht rfl).symm.trans hu
        subst e
        exact (sound_u0 h _ _ hs hj hin hwh hg hgb hgr).mono fun e w' ⟨he, hr, hk, ho⟩ => ⟨he, true, false, hr, hk, ho, fun _ => hu, fun _ => rfl⟩
      | true => exact (sound_m0 h _ _ kp hs hj hin hwh hg hgb hgr).mono fun e w' ⟨he, hr, hk, ho⟩ => ⟨he, true, false, hr, hk, ho, fun _ => hu, fun _ => rfl⟩
    · cases may with
      | false =>
        have e : kp = false := (ht rfl).symm.trans hu
        subst e
        exact (sound_d2 h _ _ hs hj hin hwh hg hgb hgr).mono fun e w' ⟨he, hr, hk, ho⟩ => ⟨he, false, false, hr, hk, ho, fun _ => hu, fun _ => rfl⟩
      | true => exact (sound_m2 h _ _ kp hs hj hin hwh hg hgb hgr).mono fun e w' ⟨he, hr, hk, ho⟩ => ⟨he, false, false, hr, hk, ho, fun _ => hu, fun _ => rfl⟩
    · cases may with
      | false =>
        have e : kp = false := (ht rfl).symm.trans hu
        subst e
        exact (sound_d1 h 1 (by omega) _ _ hs hj hin hwh hg hgb hgr).mono fun e w' ⟨he, hr, hk, ho⟩ => ⟨he, false, false, hr, hk, ho, fun _ => hu, fun _ => rfl⟩
      | true => exact (sound_m1 h 1 (by omega) _ _ kp hs hj hin hwh hg hgb hgr).mono fun e w' ⟨he, hr, hk, ho⟩ => ⟨he, false, false, hr, hk, ho, fun _ => hu, fun _ => rfl⟩
    · cases may with
      | false =>
        have e : kp = false := (ht rfl).symm.trans hu
        subst e
        exact (sound_d1 h 0 (by omega) _ _ hs hj hin hwh hg hgb hgr).mono fun e w' ⟨he, hr, hk, ho⟩ => ⟨he, false, false, hr, hk, ho, fun _ => hu, fun _ => rfl⟩
      | true => exact (sound_m1 h 0 (by omega) _ _ kp hs hj hin hwh hg hgb hgr).mono fun e w' ⟨he, hr, hk, ho⟩ => ⟨he, false, false, hr, hk, ho, fun _ => hu, fun _ => rfl⟩
set_option maxRecDepth 10000 in
set_option maxHeartbeats 2000000 in
theorem blown_dead (h : RunRel W r b j ex inp d) (k n cut torn : Int) (kp may : Bool) (d' : M.Dev) (K N : Nat) (T : ByteArray) (er ve : Nat) (tx : ByteArray) (ask : Int) (s1 s2 s3 s4 s5 s6 t1 t2 t3 t4 t5 t6 : Int)
    (hev : ∀ X : World, Calls Tryz.prog 44 #[jobV j ex, .agg #[.int .i64 k, .int .i64 n, .int .i64 cut, .int .i64 torn]] X fun e w' => e = .returned (evV K N T cut torn) ∧ Below X.heap.size X w') (hT : T.size ≤ maxLen)
    (hdo : M.doM d ⟨K, N, T, cut, torn⟩ = (d', ⟨er, ve, tx, ask⟩)) (hst : statOf d = .agg #[.bool false, .int .i64 s1, .int .i64 s2, .int .i64 s3, .int .i64 s4, .int .i64 s5, .int .i64 s6]) (hst' : statOf d' = .agg #[.bool false, .int .i64 t1, .int .i64 t2, .int .i64 t3, .int .i64 t4, .int .i64 t5, .int .i64 t6])
    (hg : W.heap[g]? = some (.cells #[.bool kp, .bool may] 58 (0, 0))) (hgb : ¬ g = b) (hk2 : ¬ K = 2) (he : er = 8)
     :
    Calls Tryz.prog 29 #[.pointer (some ⟨r, 0, none⟩), .pointer (some ⟨g, 0, none⟩), .agg #[.int .i64 k, .int .i64 n, .int .i64 cut, .int .i64 torn]] W fun e w' => e = .returned (.tuple #[]) ∧ RunRel w' r b j ex inp d' ∧ w'.heap[g]? = some (.cells #[.bool kp, .bool may] 58 (0, 0)) ∧ Only (Both b g) W w' := by
  have HR := hide h
  have HG := hide hg
  have HEV := hide hev
  have HDO : Hid (∀ X : World, RunRel X r b j ex inp d → Calls Tryz.prog 34 #[.pointer (some ⟨r, 0, none⟩), evV K N T cut torn] X fun y w' => y = .returned (.agg #[.int .i64 (er : Nat), .int .i64 (ve : Nat), .string tx, .int .i64 ask]) ∧ RunRel w' r b j ex inp d' ∧ Only (· = b) X w') := by
    intro X hX
    refine (runDo_any hX ⟨K, N, T, cut, torn⟩ hT).mono fun y w' hp => ?_
    have hrel := hX.does hp
    obtain ⟨hy, _, ho⟩ := hp
    rw [hdo] at hrel hy
    exact ⟨hy, hrel, ho⟩
  have HS1 : Hid (∀ X : World, RunRel X r b j ex inp d → Calls Tryz.prog 28 #[.pointer (some ⟨r, 0, none⟩)] X fun e w' => e = .returned (.agg #[.bool false, .int .i64 s1, .int .i64 s2, .int .i64 s3, .int .i64 s4, .int .i64 s5, .int .i64 s6]) ∧ Below X.heap.size X w') := by
    intro X hX
    have := runStatus_any hX
    rwa [hst] at this
  have HS2 : Hid (∀ X : World, RunRel X r b j ex inp d' → Calls Tryz.prog 28 #[.pointer (some ⟨r, 0, none⟩)] X fun e w' => e = .returned (.agg #[.bool false, .int .i64 t1, .int .i64 t2, .int .i64 t3, .int .i64 t4, .int .i64 t5, .int .i64 t6]) ∧ Below X.heap.size X w') := by
    intro X hX
    have := runStatus_any hX
    rwa [hst'] at this
  
  subst he
  have hk2' : ¬ (K : Int) = 2 := by omega
  have hgl := (Array.getElem?_eq_some_iff.1 hg).1
  have hrl := h.lt.1
  have hbl := h.lt.2
  clear h hg hev hdo hst hst' hT
  go_enter Tryz.func29, Tryz.ntmps29
  go_wp2_with fail
  refine (unhide HS1 _ ((unhide HR).kept ((Below.refl _ _).alloc (Nat.le_refl _) _))).mono ?_
  rintro e w1 ⟨rfl, hb1⟩
  obtain ⟨kB1, hs1, hbW1⟩ := blk1 hb1
  have HR1 := hide ((unhide HR).kept hbW1)
  have KG1 := hide (kept_block hbW1 (unhide HG))
  have KB1 := hide kB1
  have HO1 := hide (Only.of (p := Both b g) hbW1)
  have hsz1 := hbW1.size
  clear hb1 kB1 hbW1 HS1 HR HG
  go_wp2_with fail
  have rule1 : ∀ (Y : World) (o : Nat), Y.heap[W.heap.size]? = some (.cells #[.int .i64 k, .int .i64 n, .int .i64 cut, .int .i64 torn] 61 (0, 0)) → Y.cell? ⟨W.heap.size, o, none⟩ = (#[.int .i64 k, .int .i64 n, .int .i64 cut, .int .i64 torn] : Array Value)[o]? := fun Y o hh => cell_in hh o
  have rule2 : ∀ (Y : World) (o : Nat), Y.heap[r]? = some (.cells (runC b j ex inp true) 32 (0, 0)) → Y.cell? ⟨r, o, none⟩ = (runC b j ex inp true)[o]? := fun Y o hh => cell_in hh o
  have KA := hide (drew_block (ablk (o2 := .cells #[.bool false, .int .i64 s1, .int .i64 s2, .int .i64 s3, .int .i64 s4, .int .i64 s5, .int .i64 s6] 52) (unhide HR1).run))
  have KA2 := hide (ablk (o2 := .cells #[.bool false, .int .i64 s1, .int .i64 s2, .int .i64 s3, .int .i64 s4, .int .i64 s5, .int .i64 s6] 52) (unhide HR1).run)
  have KC := hide (ablk (o2 := .cells #[.bool false, .int .i64 s1, .int .i64 s2, .int .i64 s3, .int .i64 s4, .int .i64 s5, .int .i64 s6] 52) (unhide KB1))
  have KGx := hide (ablk (o2 := .cells #[.bool false, .int .i64 s1, .int .i64 s2, .int .i64 s3, .int .i64 s4, .int .i64 s5, .int .i64 s6] 52) (unhide KG1))
  have KSx := hide (last_block w1 (.cells #[.bool false, .int .i64 s1, .int .i64 s2, .int .i64 s3, .int .i64 s4, .int .i64 s5, .int .i64 s6] 52) rfl)
  have HRx := hide ((unhide HR1).kept ((Below.refl _ _).alloc (Nat.le_refl _) (.cells #[.bool false, .int .i64 s1, .int .i64 s2, .int .i64 s3, .int .i64 s4, .int .i64 s5, .int .i64 s6] 52)))
  have HOx := hide ((unhide HO1).trans (Only.of ((Below.refl _ _).alloc (Nat.le_refl _) (.cells #[.bool false, .int .i64 s1, .int .i64 s2, .int .i64 s3, .int .i64 s4, .int .i64 s5, .int .i64 s6] 52))))
  have hszx : (w1.alloc (.cells #[.bool false, .int .i64 s1, .int .i64 s2, .int .i64 s3, .int .i64 s4, .int .i64 s5, .int .i64 s6] 52)).heap.size = w1.heap.size + 1 := by simp
  refine cut_code (fun a Z => ∃ (q : Nat) (x12 x13 x14 x15 x16 x17 : Value), a = ⟨#[.pointer (some ⟨r, 0, none⟩), .pointer (some ⟨g, 0, none⟩), .agg #[.int .i64 k, .int .i64 n, .int .i64 cut, .int .i64 torn], undef, undef, .pointer (some ⟨W.heap.size, 0, none⟩), .pointer (some ⟨w1.heap.size, 0, none⟩), .pointer (some ⟨q, 0, none⟩), undef, undef, .pointer (some ⟨r, 0, none⟩), .agg #[.bool false, .int .i64 s1, .int .i64 s2, .int .i64 s3, .int .i64 s4, .int .i64 s5, .int .i64 s6], x12, x13, x14, x15, x16, x17, undef, undef, undef, undef, undef, undef, undef, undef, undef, undef, undef, undef, undef, undef, undef, undef, undef, undef, undef, undef, undef, undef, undef, undef, undef, undef, undef, undef, undef, undef, undef, undef, undef, undef, undef, undef, undef, undef, undef, undef, undef, undef, undef, undef, undef, undef, undef, undef, undef, undef, undef, undef, undef, undef, undef, undef, undef, undef, undef, undef, undef, undef, undef, undef, undef, undef, undef, undef, undef, undef, undef, undef, undef, undef, undef, undef, undef, undef, undef, undef, undef, undef, undef, undef, undef, undef, undef, undef, undef, undef, undef, undef], []⟩ ∧ Z.heap[q]? = some (.cells #[.int .i64 (K : Nat), .int .i64 (N : Nat), .string T, .int .i64 cut, .int .i64 torn] 74 (0, 0)) ∧ Z.heap[W.heap.size]? = some (.cells #[.int .i64 k, .int .i64 n, .int .i64 cut, .int .i64 torn] 61 (0, 0)) ∧ Z.heap[w1.heap.size]? = some (.cells #[.bool false, .int .i64 s1, .int .i64 s2, .int .i64 s3, .int .i64 s4, .int .i64 s5, .int .i64 s6] 52 (0, 0)) ∧ RunRel Z r b j ex inp d ∧ Z.heap[g]? = some (.cells #[.bool kp, .bool may] 58 (0, 0)) ∧ Only (Both b g) W Z ∧ w1.heap.size < q) ?_ ?_
  · clear KA
    have HSX := hide hszx
    have m1 : r < (w1.alloc (.cells #[.bool false, .int .i64 s1, .int .i64 s2, .int .i64 s3, .int .i64 s4, .int .i64 s5, .int .i64 s6] 52)).heap.size := by omega
    have m2 : W.heap.size < (w1.alloc (.cells #[.bool false, .int .i64 s1, .int .i64 s2, .int .i64 s3, .int .i64 s4, .int .i64 s5, .int .i64 s6] 52)).heap.size := by omega
    have m3 : g < (w1.alloc (.cells #[.bool false, .int .i64 s1, .int .i64 s2, .int .i64 s3, .int .i64 s4, .int .i64 s5, .int .i64 s6] 52)).heap.size := by omega
    have m4 : w1.heap.size < (w1.alloc (.cells #[.bool false, .int .i64 s1, .int .i64 s2, .int .i64 s3, .int .i64 s4, .int .i64 s5, .int .i64 s6] 52)).heap.size := by omega
    have m5 : b < (w1.alloc (.cells #[.bool false, .int .i64 s1, .int .i64 s2, .int .i64 s3, .int .i64 s4, .int .i64 s5, .int .i64 s6] 52)).heap.size := by omega
    clear hszx
    generalize (w1.alloc (.cells #[.bool false, .int .i64 s1, .int .i64 s2, .int .i64 s3, .int .i64 s4, .int .i64 s5, .int .i64 s6] 52)) = Y1 at *
    go_region_held3 (fun Y => Y.heap[r]? = some (.cells (runC b j ex inp true) 32 (0, 0)) ∧ Y.heap[W.heap.size]? = some (.cells #[.int .i64 k, .int .i64 n, .int .i64 cut, .int .i64 torn] 61 (0, 0))) (refine ⟨?_, ?_⟩ <;> (repeat (first | with_reducible exact hC1 | with_reducible exact hC2 | with_reducible exact unhide KA2 | with_reducible exact unhide KC | with_reducible refine ablk ?_ | with_reducible refine drew_block ?_ | (with_reducible refine sblk ?_ ?_; (focus omega))))) ((go_at_call 44; with_reducible refine (unhide HEV _).mono ?_; rintro y wN ⟨rfl, hbN⟩; have hsN := hbN.size; have hC1 : wN.heap[r]? = some (.cells (runC b j ex inp true) 32 (0, 0)) := kept_block hbN (by repeat (first | with_reducible exact unhide KA2 | with_reducible refine ablk ?_ | with_reducible refine drew_block ?_)); have hC2 : wN.heap[W.heap.size]? = some (.cells #[.int .i64 k, .int .i64 n, .int .i64 cut, .int .i64 torn] 61 (0, 0)) := kept_block hbN (by repeat (first | with_reducible exact unhide KC | with_reducible refine ablk ?_ | with_reducible refine drew_block ?_)); (first | (have hK : wN.heap[Y1.heap.size]? = some (.cells #[.int .i64 0, .int .i64 0, .string ⟨#[]⟩, .int .i64 0, .int .i64 0] 74 (0, 0)) := kept_block hbN (drew_block (last_block _ _ rfl)); have hNx := (block_facts hK).1; have hNf := (block_facts hK).2; have hNl := (Array.getElem?_eq_some_iff.1 hK).1) | (have hK : wN.heap[Y1.heap.size]? = some (.cells #[.int .i64 0, .int .i64 0, .string ⟨#[]⟩, .int .i64 0, .int .i64 0] 74 (0, 0)) := kept_block hbN (last_block Y1.drew _ rfl); have hNx := (block_facts hK).1; have hNf := (block_facts hK).2; have hNl := (Array.getElem?_eq_some_iff.1 hK).1) | (have hK : wN.heap[Y1.heap.size]? = some (.cells #[.int .i64 0, .int .i64 0, .string ⟨#[]⟩, .int .i64 0, .int .i64 0] 74 (0, 0)) := kept_block hbN (last_block Y1 _ rfl); have hNx := (block_facts hK).1; have hNf := (block_facts hK).2; have hNl := (Array.getElem?_eq_some_iff.1 hK).1) | skip)))
    all_goals
      have HbN : Hid (Below Y1.heap.size Y1 wN) := (by first | exact (Below.refl Y1.heap.size Y1).drew.trans hbN | exact ((Below.refl Y1.heap.size Y1).alloc (Nat.le_refl _) _).drew.trans (hbN.mono (by show Y1.heap.size ≤ (World.alloc _ _).heap.size; simp)))
      have hsN1 := (unhide HbN).size
      refine ⟨rfl, _, _, _, _, _, _, _, rfl, ?_, ?_, ?_, ?_, ?_, ?_, ?_⟩
      · first | with_reducible exact last_block _ _ rfl | with_reducible exact setRow5 hK | with_reducible exact drew_block (last_block _ _ rfl) | with_reducible exact drew_block (setRow5 hK)
      · refine kept_block (X := Y1) ?_ (unhide KC)
        repeat (first | with_reducible exact unhide HbN | with_reducible refine bdrew ?_ | (with_reducible refine bset ?_ ?_; (focus (first | omega | (simp; done) | (simp; omega)))) | (with_reducible refine balloc ?_ ?_; (focus (first | omega | (simp; done) | (simp; omega)))))
      · refine kept_block (X := Y1) ?_ (unhide KSx)
        repeat (first | with_reducible exact unhide HbN | with_reducible refine bdrew ?_ | (with_reducible refine bset ?_ ?_; (focus (first | omega | (simp; done) | (simp; omega)))) | (with_reducible refine balloc ?_ ?_; (focus (first | omega | (simp; done) | (simp; omega)))))
      · refine (unhide HRx).kept ?_
        repeat (first | with_reducible exact unhide HbN | with_reducible refine bdrew ?_ | (with_reducible refine bset ?_ ?_; (focus (first | omega | (simp; done) | (simp; omega)))) | (with_reducible refine balloc ?_ ?_; (focus (first | omega | (simp; done) | (simp; omega)))))
      · refine kept_block (X := Y1) ?_ (unhide KGx)
        repeat (first | with_reducible exact unhide HbN | with_reducible refine bdrew ?_ | (with_reducible refine bset ?_ ?_; (focus (first | omega | (simp; done) | (simp; omega)))) | (with_reducible refine balloc ?_ ?_; (focus (first | omega | (simp; done) | (simp; omega)))))
      · refine (unhide HOx).trans (Only.of ?_)
        repeat (first | with_reducible exact unhide HbN | with_reducible refine bdrew ?_ | (with_reducible refine bset ?_ ?_; (focus (first | omega | (simp; done) | (simp; omega)))) | (with_reducible refine balloc ?_ ?_; (focus (first | omega | (simp; done) | (simp; omega)))))
      · omega
  · rintro _ Z ⟨q, x12, x13, x14, x15, x16, x17, rfl, kE, kB, kS, hrZ, kG, hoZ, hq⟩
    clear HEV HR1 KG1 KB1 HO1 KA KA2 KC KGx KSx HRx HOx hszx rule1 rule2
    have KE := hide kE
    have KB := hide kB
    have KS := hide kS
    have KG := hide kG
    have HOZ := hide hoZ
    have lq := (Array.getElem?_eq_some_iff.1 kE).1
    have lB := (Array.getElem?_eq_some_iff.1 kB).1
    have lS := (Array.getElem?_eq_some_iff.1 kS).1
    have lG := (Array.getElem?_eq_some_iff.1 kG).1
    obtain ⟨hxE, hfE⟩ := block_facts kE
    have HRZ := hide hrZ
    clear kE kB kS kG hoZ hrZ
    go_wp2_with fail
    refine (unhide HDO _ (unhide HRZ)).mono ?_
    rintro y w3 ⟨rfl, hr3, ho3⟩
    have KE3 := hide ((ho3.block q lq (by omega)).trans (unhide KE))
    have KB3 := hide ((ho3.block W.heap.size lB (by omega)).trans (unhide KB))
    have KS3 := hide ((ho3.block w1.heap.size lS (by omega)).trans (unhide KS))
    have KG3 := hide ((ho3.block g lG hgb).trans (unhide KG))
    have HO3 := hide ((unhide HOZ).trans (only_both ho3))
    have HR3 := hide hr3
    have hs3 := ho3.size
    clear hr3 ho3 hxE hfE KE KB KS KG HOZ HRZ HDO
    go_wp2_with fail
    refine (unhide HS2 _ ((unhide HR3).kept ((Below.refl _ _).alloc (Nat.le_refl _) _))).mono ?_
    rintro e w4 ⟨rfl, hb4⟩
    obtain ⟨kR4, hl4, hbW4⟩ := blk1 hb4
    have kE4 := kept_block hbW4 (unhide KE3)
    have kB4 := kept_block hbW4 (unhide KB3)
    have kS4 := kept_block hbW4 (unhide KS3)
    have kG4 := kept_block hbW4 (unhide KG3)
    have HR4 := hide ((unhide HR3).kept hbW4)
    have HO4 := hide ((unhide HO3).trans (Only.of hbW4))
    obtain ⟨hxr, hfr⟩ := block_facts (unhide HR4).run
    obtain ⟨hxE, hfE⟩ := block_facts kE4
    obtain ⟨hxB, hfB⟩ := block_facts kB4
    obtain ⟨hxS, hfS⟩ := block_facts kS4
    obtain ⟨hxR, hfR⟩ := block_facts kR4
    obtain ⟨hxg, hfg⟩ := block_facts kG4
    have KG4 := hide kG4
    have l1 := (Array.getElem?_eq_some_iff.1 kE4).1
    have l2 := (Array.getElem?_eq_some_iff.1 kB4).1
    have l3 := (Array.getElem?_eq_some_iff.1 kS4).1
    have l4 := (Array.getElem?_eq_some_iff.1 kG4).1
    have l5 := (unhide HR4).lt.1
    have n1 : ¬ q = w4.heap.size := by omega
    have n2 : ¬ W.heap.size = w4.heap.size := by omega
    have n3 : ¬ w1.heap.size = w4.heap.size := by omega
    have n4 : ¬ g = w4.heap.size := by omega
    have n5 : ¬ r = w4.heap.size := by omega
    have n6 : ¬ w3.heap.size = w4.heap.size := by omega
    have n7 : ¬ w3.heap.size = g := by omega
    have n8 : ¬ g = w3.heap.size := by omega
    clear hb4 kR4 hbW4 kE4 kB4 kS4 kG4 HR3 KE3 KB3 KS3 KG3 HO3 HS2 lq lB lS lG
    go_wp2_with fail
    refine (must_true _ _).mono ?_
    rintro e _ ⟨rfl, rfl⟩
    go_wp2
    refine bodyPost_ret (v := .tuple #[]) (by simp [results, Tryz.results29, go_sem]) rfl ⟨rfl, (unhide HR4).kept ((Below.refl _ _).alloc (Nat.le_refl _) _), ablk (unhide KG4), (unhide HO4).trans (Only.of ((Below.refl _ _).alloc (Nat.le_refl _) _))⟩
set_option maxRecDepth 10000 in
set_option maxHeartbeats 2000000 in
theorem blown_awake (h : RunRel W r b j ex inp d) (k n cut torn : Int) (kp may : Bool) (d' : M.Dev) (K N : Nat) (T : ByteArray) (er ve : Nat) (tx : ByteArray) (ask : Int) (s1 s2 s3 s4 s5 s6 t1 t2 t3 t4 t5 t6 : Int)
    (hev : ∀ X : World, Calls Tryz.prog 44 #[jobV j ex, .agg #[.int .i64 k, .int .i64 n, .int .i64 cut, .int .i64 torn]] X fun e w' => e = .returned (evV K N T cut torn) ∧ Below X.heap.size X w') (hT : T.size ≤ maxLen)
    (hdo : M.doM d ⟨K, N, T, cut, torn⟩ = (d', ⟨er, ve, tx, ask⟩)) (hst : statOf d = .agg #[.bool true, .int .i64 s1, .int .i64 s2, .int .i64 s3, .int .i64 s4, .int .i64 s5, .int .i64 s6]) (hst' : statOf d' = .agg #[.bool true, .int .i64 t1, .int .i64 t2, .int .i64 t3, .int .i64 t4, .int .i64 t5, .int .i64 t6])
    (hg : W.heap[g]? = some (.cells #[.bool kp, .bool may] 58 (0, 0))) (hgb : ¬ g = b) (hk2 : K = 2) (he : er = 9)
     :
    Calls Tryz.prog 29 #[.pointer (some ⟨r, 0, none⟩), .pointer (some ⟨g, 0, none⟩), .agg #[.int .i64 k, .int .i64 n, .int .i64 cut, .int .i64 torn]] W fun e w' => e = .returned (.tuple #[]) ∧ RunRel w' r b j ex inp d' ∧ w'.heap[g]? = some (.cells #[.bool kp, .bool may] 58 (0, 0)) ∧ Only (Both b g) W w' := by
  have HR := hide h
  have HG := hide hg
  have HEV := hide hev
  have HDO : Hid (∀ X : World, RunRel X r b j ex inp d → Calls Tryz.prog 34 #[.pointer (some ⟨r, 0, none⟩), evV K N T cut torn] X fun y w' => y = .returned (.agg #[.int .i64 (er : Nat), .int .i64 (ve : Nat), .string tx, .int .i64 ask]) ∧ RunRel w' r b j ex inp d' ∧ Only (· = b) X w') := by
    intro X hX
    refine (runDo_any hX ⟨K, N, T, cut, torn⟩ hT).mono fun y w' hp => ?_
    have hrel := hX.does hp
    obtain ⟨hy, _, ho⟩ := hp
    rw [hdo] at hrel hy
    exact ⟨hy, hrel, ho⟩
  have HS1 : Hid (∀ X : World, RunRel X r b j ex inp d → Calls Tryz.prog 28 #[.pointer (some ⟨r, 0, none⟩)] X fun e w' => e = .returned (.agg #[.bool true, .int .i64 s1, .int .i64 s2, .int .i64 s3, .int .i64 s4, .int .i64 s5, .int .i64 s6]) ∧ Below X.heap.size X w') := by
    intro X hX
    have := runStatus_any hX
    rwa [hst] at this
  have HS2 : Hid (∀ X : World, RunRel X r b j ex inp d' → Calls Tryz.prog 28 #[.pointer (some ⟨r, 0, none⟩)] X fun e w' => e = .returned (.agg #[.bool true, .int .i64 t1, .int .i64 t2, .int .i64 t3, .int .i64 t4, .int .i64 t5, .int .i64 t6]) ∧ Below X.heap.size X w') := by
    intro X hX
    have := runStatus_any hX
    rwa [hst'] at this
  
  subst he
  have H_hk2 := hide hk2
  clear hk2
  have hgl := (Array.getElem?_eq_some_iff.1 hg).1
  have hrl := h.lt.1
  have hbl := h.lt.2
  clear h hg hev hdo hst hst' hT
  go_enter Tryz.func29, Tryz.ntmps29
  go_wp2_with fail
  refine (unhide HS1 _ ((unhide HR).kept ((Below.refl _ _).alloc (Nat.le_refl _) _))).mono ?_
  rintro e w1 ⟨rfl, hb1⟩
  obtain ⟨kB1, hs1, hbW1⟩ := blk1 hb1
  have HR1 := hide ((unhide HR).kept hbW1)
  have KG1 := hide (kept_block hbW1 (unhide HG))
  have KB1 := hide kB1
  have HO1 := hide (Only.of (p := Both b g) hbW1)
  have hsz1 := hbW1.size
  clear hb1 kB1 hbW1 HS1 HR HG
  go_wp2_with fail
  have rule1 : ∀ (Y : World) (o : Nat), Y.heap[W.heap.size]? = some (.cells #[.int .i64 k, .int .i64 n, .int .i64 cut, .int .i64 torn] 61 (0, 0)) → Y.cell? ⟨W.heap.size, o, none⟩ = (#[.int .i64 k, .int .i64 n, .int .i64 cut, .int .i64 torn] : Array Value)[o]? := fun Y o hh => cell_in hh o
  have rule2 : ∀ (Y : World) (o : Nat), Y.heap[r]? = some (.cells (runC b j ex inp true) 32 (0, 0)) → Y.cell? ⟨r, o, none⟩ = (runC b j ex inp true)[o]? := fun Y o hh => cell_in hh o
  have KA := hide (drew_block (ablk (o2 := .cells #[.bool true, .int .i64 s1, .int .i64 s2, .int .i64 s3, .int .i64 s4, .int .i64 s5, .int .i64 s6] 52) (unhide HR1).run))
  have KA2 := hide (ablk (o2 := .cells #[.bool true, .int .i64 s1, .int .i64 s2, .int .i64 s3, .int .i64 s4, .int .i64 s5, .int .i64 s6] 52) (unhide HR1).run)
  have KC := hide (ablk (o2 := .cells #[.bool true, .int .i64 s1, .int .i64 s2, .int .i64 s3, .int .i64 s4, .int .i64 s5, .int .i64 s6] 52) (unhide KB1))
  have KGx := hide (ablk (o2 := .cells #[.bool true, .int .i64 s1, .int .i64 s2, .int .i64 s3, .int .i64 s4, .int .i64 s5, .int .i64 s6] 52) (unhide KG1))
  have KSx := hide (last_block w1 (.cells #[.bool true, .int .i64 s1, .int .i64 s2, .int .i64 s3, .int .i64 s4, .int .i64 s5, .int .i64 s6] 52) rfl)
  have HRx := hide ((unhide HR1).kept ((Below.refl _ _).alloc (Nat.le_refl _) (.cells #[.bool true, .int .i64 s1, .int .i64 s2, .int .i64 s3, .int .i64 s4, .int .i64 s5, .int .i64 s6] 52)))
  have HOx := hide ((unhide HO1).trans (Only.of ((Below.refl _ _).alloc (Nat.le_refl _) (.cells #[.bool true, .int .i64 s1, .int .i64 s2, .int .i64 s3, .int .i64 s4, .int .i64 s5, .int .i64 s6] 52))))
  have hszx : (w1.alloc (.cells #[.bool true, .int .i64 s1, .int .i64 s2, .int .i64 s3, .int .i64 s4, .int .i64 s5, .int .i64 s6] 52)).heap.size = w1.heap.size + 1 := by simp
  refine cut_code (fun a Z => ∃ (q : Nat) (x12 x13 x14 x15 x16 x17 : Value), a = ⟨#[.pointer (some ⟨r, 0, none⟩), .pointer (some ⟨g, 0, none⟩), .agg #[.int .i64 k, .int .i64 n, .int .i64 cut, .int .i64 torn], undef, undef, .pointer (some ⟨W.heap.size, 0, none⟩), .pointer (some ⟨w1.heap.size, 0, none⟩), .pointer (some ⟨q, 0, none⟩), undef, undef, .pointer (some ⟨r, 0, none⟩), .agg #[.bool true, .int .i64 s1, .int .i64 s2, .int .i64 s3, .int .i64 s4, .int .i64 s5, .int .i64 s6], x12, x13, x14, x15, x16, x17, undef, undef, undef, undef, undef, undef, undef, undef, undef, undef, undef, undef, undef, undef, undef, undef, undef, undef, undef, undef, undef, undef, undef, undef, undef, undef, undef, undef, undef, undef, undef, undef, undef, undef, undef, undef, undef, undef, undef, undef, undef, undef, undef, undef, undef, undef, undef, undef, undef, undef, undef, undef, undef, undef, undef, undef, undef, undef, undef, undef, undef, undef, undef, undef, undef, undef, undef, undef, undef, undef, undef, undef, undef, undef, undef, undef, undef, undef, undef, undef, undef, undef, undef, undef, undef, undef, undef, undef, undef, undef, undef, undef], []⟩ ∧ Z.heap[q]? = some (.cells #[.int .i64 (K : Nat), .int .i64 (N : Nat), .string T, .int .i64 cut, .int .i64 torn] 74 (0, 0)) ∧ Z.heap[W.heap.size]? = some (.cells #[.int .i64 k, .int .i64 n, .int .i64 cut, .int .i64 torn] 61 (0, 0)) ∧ Z.heap[w1.heap.size]? = some (.cells #[.bool true, .int .i64 s1, .int .i64 s2, .int .i64 s3, .int .i64 s4, .int .i64 s5, .int .i64 s6] 52 (0, 0)) ∧ RunRel Z r b j ex inp d ∧ Z.heap[g]? = some (.cells #[.bool kp, .bool may] 58 (0, 0)) ∧ Only (Both b g) W Z ∧ w1.heap.size < q) ?_ ?_
  · clear KA
    have HSX := hide hszx
    have m1 : r < (w1.alloc (.cells #[.bool true, .int .i64 s1, .int .i64 s2, .int .i64 s3, .int .i64 s4, .int .i64 s5, .int .i64 s6] 52)).heap.size := by omega
    have m2 : W.heap.size < (w1.alloc (.cells #[.bool true, .int .i64 s1, .int .i64 s2, .int .i64 s3, .int .i64 s4, .int .i64 s5, .int .i64 s6] 52)).heap.size := by omega
    have m3 : g < (w1.alloc (.cells #[.bool true, .int .i64 s1, .int .i64 s2, .int .i64 s3, .int .i64 s4, .int .i64 s5, .int .i64 s6] 52)).heap.size := by omega
    have m4 : w1.heap.size < (w1.alloc (.cells #[.bool true, .int .i64 s1, .int .i64 s2, .int .i64 s3, .int .i64 s4, .int .i64 s5, .int .i64 s6] 52)).heap.size := by omega
    have m5 : b < (w1.alloc (.cells #[.bool true, .int .i64 s1, .int .i64 s2, .int .i64 s3, .int .i64 s4, .int .i64 s5, .int .i64 s6] 52)).heap.size := by omega
    clear hszx
    generalize (w1.alloc (.cells #[.bool true, .int .i64 s1, .int .i64 s2, .int .i64 s3, .int .i64 s4, .int .i64 s5, .int .i64 s6] 52)) = Y1 at *
    go_region_held3 (fun Y => Y.heap[r]? = some (.cells (runC b j ex inp true) 32 (0, 0)) ∧ Y.heap[W.heap.size]? = some (.cells #[.int .i64 k, .int .i64 n, .int .i64 cut, .int .i64 torn] 61 (0, 0))) (refine ⟨?_, ?_⟩ <;> (repeat (first | with_reducible exact hC1 | with_reducible exact hC2 | with_reducible exact unhide KA2 | with_reducible exact unhide KC | with_reducible refine ablk ?_ | with_reducible refine drew_block ?_ | (with_reducible refine sblk ?_ ?_; (focus omega))))) ((go_at_call 44; with_reducible refine (unhide HEV _).mono ?_; rintro y wN ⟨rfl, hbN⟩; have hsN := hbN.size; have hC1 : wN.heap[r]? = some (.cells (runC b j ex inp true) 32 (0, 0)) := kept_block hbN (by repeat (first | with_reducible exact unhide KA2 | with_reducible refine ablk ?_ | with_reducible refine drew_block ?_)); have hC2 : wN.heap[W.heap.size]? = some (.cells #[.int .i64 k, .int .i64 n, .int .i64 cut, .int .i64 torn] 61 (0, 0)) := kept_block hbN (by repeat (first | with_reducible exact unhide KC | with_reducible refine ablk ?_ | with_reducible refine drew_block ?_)); (first | (have hK : wN.heap[Y1.heap.size]? = some (.cells #[.int .i64 0, .int .i64 0, .string ⟨#[]⟩, .int .i64 0, .int .i64 0] 74 (0, 0)) := kept_block hbN (drew_block (last_block _ _ rfl)); have hNx := (block_facts hK).1; have hNf := (block_facts hK).2; have hNl := (Array.getElem?_eq_some_iff.1 hK).1) | (have hK : wN.heap[Y1.heap.size]? = some (.cells #[.int .i64 0, .int .i64 0, .string ⟨#[]⟩, .int .i64 0, .int .i64 0] 74 (0, 0)) := kept_block hbN (last_block Y1.drew _ rfl); have hNx := (block_facts hK).1; have hNf := (block_facts hK).2; have hNl := (Array.getElem?_eq_some_iff.1 hK).1) | (have hK : wN.heap[Y1.heap.size]? = some (.cells #[.int .i64 0, .int .i64 0, .string ⟨#[]⟩, .int .i64 0, .int .i64 0] 74 (0, 0)) := kept_block hbN (last_block Y1 _ rfl); have hNx := (block_facts hK).1; have hNf := (block_facts hK).2; have hNl := (Array.getElem?_eq_some_iff.1 hK).1) | skip)))
    all_goals
      have HbN : Hid (Below Y1.heap.size Y1 wN) := (by first | exact (Below.refl Y1.heap.size Y1).drew.trans hbN | exact ((Below.refl Y1.heap.size Y1).alloc (Nat.le_refl _) _).drew.trans (hbN.mono (by show Y1.heap.size ≤ (World.alloc _ _).heap.size; simp)))
      have hsN1 := (unhide HbN).size
      refine ⟨rfl, _, _, _, _, _, _, _, rfl, ?_, ?_, ?_, ?_, ?_, ?_, ?_⟩
      · first | with_reducible exact last_block _ _ rfl | with_reducible exact setRow5 hK | with_reducible exact drew_block (last_block _ _ rfl) | with_reducible exact drew_block (setRow5 hK)
      · refine kept_block (X := Y1) ?_ (unhide KC)
        repeat (first | with_reducible exact unhide HbN | with_reducible refine bdrew ?_ | (with_reducible refine bset ?_ ?_; (focus (first | omega | (simp; done) | (simp; omega)))) | (with_reducible refine balloc ?_ ?_; (focus (first | omega | (simp; done) | (simp; omega)))))
      · refine kept_block (X := Y1) ?_ (unhide KSx)
        repeat (first | with_reducible exact unhide HbN | with_reducible refine bdrew ?_ | (with_reducible refine bset ?_ ?_; (focus (first | omega | (simp; done) | (simp; omega)))) | (with_reducible refine balloc ?_ ?_; (focus (first | omega | (simp; done) | (simp; omega)))))
      · refine (unhide HRx).kept ?_
        repeat (first | with_reducible exact unhide HbN | with_reducible refine bdrew ?_ | (with_reducible refine bset ?_ ?_; (focus (first | omega | (simp; done) | (simp; omega)))) | (with_reducible refine balloc ?_ ?_; (focus (first | omega | (simp; done) | (simp; omega)))))
      · refine kept_block (X := Y1) ?_ (unhide KGx)
        repeat (first | with_reducible exact unhide HbN | with_reducible refine bdrew ?_ | (with_reducible refine bset ?_ ?_; (focus (first | omega | (simp; done) | (simp; omega)))) | (with_reducible refine balloc ?_ ?_; (focus (first | omega | (simp; done) | (simp; omega)))))
      · refine (unhide HOx).trans (Only.of ?_)
        repeat (first | with_reducible exact unhide HbN | with_reducible refine bdrew ?_ | (with_reducible refine bset ?_ ?_; (focus (first | omega | (simp; done) | (simp; omega)))) | (with_reducible refine balloc ?_ ?_; (focus (first | omega | (simp; done) | (simp; omega)))))
      · omega
  · rintro _ Z ⟨q, x12, x13, x14, x15, x16, x17, rfl, kE, kB, kS, hrZ, kG, hoZ, hq⟩
    clear HEV HR1 KG1 KB1 HO1 KA KA2 KC KGx KSx HRx HOx hszx rule1 rule2
    have hk2 := unhide H_hk2
    subst hk2
    have KE := hide kE
    have KB := hide kB
    have KS := hide kS
    have KG := hide kG
    have HOZ := hide hoZ
    have lq := (Array.getElem?_eq_some_iff.1 kE).1
    have lB := (Array.getElem?_eq_some_iff.1 kB).1
    have lS := (Array.getElem?_eq_some_iff.1 kS).1
    have lG := (Array.getElem?_eq_some_iff.1 kG).1
    obtain ⟨hxE, hfE⟩ := block_facts kE
    have HRZ := hide hrZ
    clear kE kB kS kG hoZ hrZ
    go_wp2_with fail
    refine (unhide HDO _ (unhide HRZ)).mono ?_
    rintro y w3 ⟨rfl, hr3, ho3⟩
    have KE3 := hide ((ho3.block q lq (by omega)).trans (unhide KE))
    have KB3 := hide ((ho3.block W.heap.size lB (by omega)).trans (unhide KB))
    have KS3 := hide ((ho3.block w1.heap.size lS (by omega)).trans (unhide KS))
    have KG3 := hide ((ho3.block g lG hgb).trans (unhide KG))
    have HO3 := hide ((unhide HOZ).trans (only_both ho3))
    have HR3 := hide hr3
    have hs3 := ho3.size
    clear hr3 ho3 hxE hfE KE KB KS KG HOZ HRZ HDO
    go_wp2_with fail
    refine (unhide HS2 _ ((unhide HR3).kept ((Below.refl _ _).alloc (Nat.le_refl _) _))).mono ?_
    rintro e w4 ⟨rfl, hb4⟩
    obtain ⟨kR4, hl4, hbW4⟩ := blk1 hb4
    have kE4 := kept_block hbW4 (unhide KE3)
    have kB4 := kept_block hbW4 (unhide KB3)
    have kS4 := kept_block hbW4 (unhide KS3)
    have kG4 := kept_block hbW4 (unhide KG3)
    have HR4 := hide ((unhide HR3).kept hbW4)
    have HO4 := hide ((unhide HO3).trans (Only.of hbW4))
    obtain ⟨hxr, hfr⟩ := block_facts (unhide HR4).run
    obtain ⟨hxE, hfE⟩ := block_facts kE4
    obtain ⟨hxB, hfB⟩ := block_facts kB4
    obtain ⟨hxS, hfS⟩ := block_facts kS4
    obtain ⟨hxR, hfR⟩ := block_facts kR4
    obtain ⟨hxg, hfg⟩ := block_facts kG4
    have KG4 := hide kG4
    have l1 := (Array.getElem?_eq_some_iff.1 kE4).1
    have l2 := (Array.getElem?_eq_some_iff.1 kB4).1
    have l3 := (Array.getElem?_eq_some_iff.1 kS4).1
    have l4 := (Array.getElem?_eq_some_iff.1 kG4).1
    have l5 := (unhide HR4).lt.1
    have n1 : ¬ q = w4.heap.size := by omega
    have n2 : ¬ W.heap.size = w4.heap.size := by omega
    have n3 : ¬ w1.heap.size = w4.heap.size := by omega
    have n4 : ¬ g = w4.heap.size := by omega
    have n5 : ¬ r = w4.heap.size := by omega
    have n6 : ¬ w3.heap.size = w4.heap.size := by omega
    have n7 : ¬ w3.heap.size = g := by omega
    have n8 : ¬ g = w3.heap.size := by omega
    clear hb4 kR4 hbW4 kE4 kB4 kS4 kG4 HR3 KE3 KB3 KS3 KG3 HO3 HS2 lq lB lS lG
    go_wp2_with fail
    refine (must_true _ _).mono ?_
    rintro e _ ⟨rfl, rfl⟩
    go_wp2
    refine bodyPost_ret (v := .tuple #[]) (by simp [results, Tryz.results29, go_sem]) rfl ⟨rfl, (unhide HR4).kept ((Below.refl _ _).alloc (Nat.le_refl _) _), ablk (unhide KG4), (unhide HO4).trans (Only.of ((Below.refl _ _).alloc (Nat.le_refl _) _))⟩
set_option maxRecDepth 10000 in
set_option maxHeartbeats 2000000 in
theorem blown_cut_boot (h : RunRel W r b j ex inp d) (k n cut torn : Int) (kp may : Bool) (d' : M.Dev) (K N : Nat) (T : ByteArray) (er ve : Nat) (tx : ByteArray) (ask : Int) (s1 s2 s3 s4 s5 s6 t1 t2 t3 t4 t5 t6 : Int)
    (hev : ∀ X : World, Calls Tryz.prog 44 #[jobV j ex, .agg #[.int .i64 k, .int .i64 n, .int .i64 cut, .int .i64 torn]] X fun e w' => e = .returned (evV K N T cut torn) ∧ Below X.heap.size X w') (hT : T.size ≤ maxLen)
    (hdo : M.doM d ⟨K, N, T, cut, torn⟩ = (d', ⟨er, ve, tx, ask⟩)) (hst : statOf d = .agg #[.bool false, .int .i64 s1, .int .i64 s2, .int .i64 s3, .int .i64 s4, .int .i64 s5, .int .i64 s6]) (hst' : statOf d' = .agg #[.bool false, .int .i64 t1, .int .i64 t2, .int .i64 t3, .int .i64 t4, .int .i64 t5, .int .i64 t6])
    (hg : W.heap[g]? = some (.cells #[.bool kp, .bool may] 58 (0, 0))) (hgb : ¬ g = b) (hk2 : K = 2) (he : er = 10) (hc : 0 ≤ cut)
    (hsd : ∀ X : World, RunRel X r b j ex inp d' → X.heap[g]? = some (.cells #[.bool kp, .bool may] 58 (0, 0)) → Calls Tryz.prog 45 #[.pointer (some ⟨r, 0, none⟩), .pointer (some ⟨g, 0, none⟩)] X fun e w' => SoundPost X r b g j ex inp d' e w') :
    Calls Tryz.prog 29 #[.pointer (some ⟨r, 0, none⟩), .pointer (some ⟨g, 0, none⟩), .agg #[.int .i64 k, .int .i64 n, .int .i64 cut, .int .i64 torn]] W fun e w' => SoundPost W r b g j ex inp d' e w' := by
  have HR := hide h
  have HG := hide hg
  have HEV := hide hev
  have HDO : Hid (∀ X : World, RunRel X r b j ex inp d → Calls Tryz.prog 34 #[.pointer (some ⟨r, 0, none⟩), evV K N T cut torn] X fun y w' => y = .returned (.agg #[.int .i64 (er : Nat), .int .i64 (ve : Nat), .string tx, .int .i64 ask]) ∧ RunRel w' r b j ex inp d' ∧ Only (· = b) X w') := by
    intro X hX
    refine (runDo_any hX ⟨K, N, T, cut, torn⟩ hT).mono fun y w' hp => ?_
    have hrel := hX.does hp
    obtain ⟨hy, _, ho⟩ := hp
    rw [hdo] at hrel hy
    exact ⟨hy, hrel, ho⟩
  have HS1 : Hid (∀ X : World, RunRel X r b j ex inp d → Calls Tryz.prog 28 #[.pointer (some ⟨r, 0, none⟩)] X fun e w' => e = .returned (.agg #[.bool false, .int .i64 s1, .int .i64 s2, .int .i64 s3, .int .i64 s4, .int .i64 s5, .int .i64 s6]) ∧ Below X.heap.size X w') := by
    intro X hX
    have := runStatus_any hX
    rwa [hst] at this
  have HS2 : Hid (∀ X : World, RunRel X r b j ex inp d' → Calls Tryz.prog 28 #[.pointer (some ⟨r, 0, none⟩)] X fun e w' => e = .returned (.agg #[.bool false, .int .i64 t1, .int .i64 t2, .int .i64 t3, .int .i64 t4, .int .i64 t5, .int .i64 t6]) ∧ Below X.heap.size X w') := by
    intro X hX
    have := runStatus_any hX
    rwa [hst'] at this
  have HSD := hide hsd
  subst he
  have H_hk2 := hide hk2
  clear hk2
  have hgl := (Array.getElem?_eq_some_iff.1 hg).1
  have hrl := h.lt.1
  have hbl := h.lt.2
  clear h hg hev hdo hst hst' hT hsd
  go_enter Tryz.func29, Tryz.ntmps29
  go_wp2_with fail
  refine (unhide HS1 _ ((unhide HR).kept ((Below.refl _ _).alloc (Nat.le_refl _) _))).mono ?_
  rintro e w1 ⟨rfl, hb1⟩
  obtain ⟨kB1, hs1, hbW1⟩ := blk1 hb1
  have HR1 := hide ((unhide HR).kept hbW1)
  have KG1 := hide (kept_block hbW1 (unhide HG))
  have KB1 := hide kB1
  have HO1 := hide (Only.of (p := Both b g) hbW1)
  have hsz1 := hbW1.size
  clear hb1 kB1 hbW1 HS1 HR HG
  go_wp2_with fail
  have rule1 : ∀ (Y : World) (o : Nat), Y.heap[W.heap.size]? = some (.cells #[.int .i64 k, .int .i64 n, .int .i64 cut, .int .i64 torn] 61 (0, 0)) → Y.cell? ⟨W.heap.size, o, none⟩ = (#[.int .i64 k, .int .i64 n, .int .i64 cut, .int .i64 torn] : Array Value)[o]? := fun Y o hh => cell_in hh o
  have rule2 : ∀ (Y : World) (o : Nat), Y.heap[r]? = some (.cells (runC b j ex inp true) 32 (0, 0)) → Y.cell? ⟨r, o, none⟩ = (runC b j ex inp true)[o]? := fun Y o hh => cell_in hh o
  have KA := hide (drew_block (ablk (o2 := .cells #[.bool false, .int .i64 s1, .int .i64 s2, .int .i64 s3, .int .i64 s4, .int .i64 s5, .int .i64 s6] 52) (unhide HR1).run))
  have KA2 := hide (ablk (o2 := .cells #[.bool false, .int .i64 s1, .int .i64 s2, .int .i64 s3, .int .i64 s4, .int .i64 s5, .int .i64 s6] 52) (unhide HR1).run)
  have KC := hide (ablk (o2 := .cells #[.bool false, .int .i64 s1, .int .i64 s2, .int .i64 s3, .int .i64 s4, .int .i64 s5, .int .i64 s6] 52) (unhide KB1))
  have KGx := hide (ablk (o2 := .cells #[.bool false, .int .i64 s1, .int .i64 s2, .int .i64 s3, .int .i64 s4, .int .i64 s5, .int .i64 s6] 52) (unhide KG1))
  have KSx := hide (last_block w1 (.cells #[.bool false, .int .i64 s1, .int .i64 s2, .int .i64 s3, .int .i64 s4, .int .i64 s5, .int .i64 s6] 52) rfl)
  have HRx := hide ((unhide HR1).kept ((Below.refl _ _).alloc (Nat.le_refl _) (.cells #[.bool false, .int .i64 s1, .int .i64 s2, .int .i64 s3, .int .i64 s4, .int .i64 s5, .int .i64 s6] 52)))
  have HOx := hide ((unhide HO1).trans (Only.of ((Below.refl _ _).alloc (Nat.le_refl _) (.cells #[.bool false, .int .i64 s1, .int .i64 s2, .int .i64 s3, .int .i64 s4, .int .i64 s5, .int .i64 s6] 52))))
  have hszx : (w1.alloc (.cells #[.bool false, .int .i64 s1, .int .i64 s2, .int .i64 s3, .int .i64 s4, .int .i64 s5, .int .i64 s6] 52)).heap.size = w1.heap.size + 1 := by simp
  refine cut_code (fun a Z => ∃ (q : Nat) (x12 x13 x14 x15 x16 x17 : Value), a = ⟨#[.pointer (some ⟨r, 0, none⟩), .pointer (some ⟨g, 0, none⟩), .agg #[.int .i64 k, .int .i64 n, .int .i64 cut, .int .i64 torn], undef, undef, .pointer (some ⟨W.heap.size, 0, none⟩), .pointer (some ⟨w1.heap.size, 0, none⟩), .pointer (some ⟨q, 0, none⟩), undef, undef, .pointer (some ⟨r, 0, none⟩), .agg #[.bool false, .int .i64 s1, .int .i64 s2, .int .i64 s3, .int .i64 s4, .int .i64 s5, .int .i64 s6], x12, x13, x14, x15, x16, x17, undef, undef, undef, undef, undef, undef, undef, undef, undef, undef, undef, undef, undef, undef, undef, undef, undef, undef, undef, undef, undef, undef, undef, undef, undef, undef, undef, undef, undef, undef, undef, undef, undef, undef, undef, undef, undef, undef, undef, undef, undef, undef, undef, undef, undef, undef, undef, undef, undef, undef, undef, undef, undef, undef, undef, undef, undef, undef, undef, undef, undef, undef, undef, undef, undef, undef, undef, undef, undef, undef, undef, undef, undef, undef, undef, undef, undef, undef, undef, undef, undef, undef, undef, undef, undef, undef, undef, undef, undef, undef, undef, undef], []⟩ ∧ Z.heap[q]? = some (.cells #[.int .i64 (K : Nat), .int .i64 (N : Nat), .string T, .int .i64 cut, .int .i64 torn] 74 (0, 0)) ∧ Z.heap[W.heap.size]? = some (.cells #[.int .i64 k, .int .i64 n, .int .i64 cut, .int .i64 torn] 61 (0, 0)) ∧ Z.heap[w1.heap.size]? = some (.cells #[.bool false, .int .i64 s1, .int .i64 s2, .int .i64 s3, .int .i64 s4, .int .i64 s5, .int .i64 s6] 52 (0, 0)) ∧ RunRel Z r b j ex inp d ∧ Z.heap[g]? = some (.cells #[.bool kp, .bool may] 58 (0, 0)) ∧ Only (Both b g) W Z ∧ w1.heap.size < q) ?_ ?_
  · clear KA
    have HSX := hide hszx
    have m1 : r < (w1.alloc (.cells #[.bool false, .int .i64 s1, .int .i64 s2, .int .i64 s3, .int .i64 s4, .int .i64 s5, .int .i64 s6] 52)).heap.size := by omega
    have m2 : W.heap.size < (w1.alloc (.cells #[.bool false, .int .i64 s1, .int .i64 s2, .int .i64 s3, .int .i64 s4, .int .i64 s5, .int .i64 s6] 52)).heap.size := by omega
    have m3 : g < (w1.alloc (.cells #[.bool false, .int .i64 s1, .int .i64 s2, .int .i64 s3, .int .i64 s4, .int .i64 s5, .int .i64 s6] 52)).heap.size := by omega
    have m4 : w1.heap.size < (w1.alloc (.cells #[.bool false, .int .i64 s1, .int .i64 s2, .int .i64 s3, .int .i64 s4, .int .i64 s5, .int .i64 s6] 52)).heap.size := by omega
    have m5 : b < (w1.alloc (.cells #[.bool false, .int .i64 s1, .int .i64 s2, .int .i64 s3, .int .i64 s4, .int .i64 s5, .int .i64 s6] 52)).heap.size := by omega
    clear hszx
    generalize (w1.alloc (.cells #[.bool false, .int .i64 s1, .int .i64 s2, .int .i64 s3, .int .i64 s4, .int .i64 s5, .int .i64 s6] 52)) = Y1 at *
    go_region_held3 (fun Y => Y.heap[r]? = some (.cells (runC b j ex inp true) 32 (0, 0)) ∧ Y.heap[W.heap.size]? = some (.cells #[.int .i64 k, .int .i64 n, .int .i64 cut, .int .i64 torn] 61 (0, 0))) (refine ⟨?_, ?_⟩ <;> (repeat (first | with_reducible exact hC1 | with_reducible exact hC2 | with_reducible exact unhide KA2 | with_reducible exact unhide KC | with_reducible refine ablk ?_ | with_reducible refine drew_block ?_ | (with_reducible refine sblk ?_ ?_; (focus omega))))) ((go_at_call 44; with_reducible refine (unhide HEV _).mono ?_; rintro y wN ⟨rfl, hbN⟩; have hsN := hbN.size; have hC1 : wN.heap[r]? = some (.cells (runC b j ex inp true) 32 (0, 0)) := kept_block hbN (by repeat (first | with_reducible exact unhide KA2 | with_reducible refine ablk ?_ | with_reducible refine drew_block ?_)); have hC2 : wN.heap[W.heap.size]? = some (.cells #[.int .i64 k, .int .i64 n, .int .i64 cut, .int .i64 torn] 61 (0, 0)) := kept_block hbN (by repeat (first | with_reducible exact unhide KC | with_reducible refine ablk ?_ | with_reducible refine drew_block ?_)); (first | (have hK : wN.heap[Y1.heap.size]? = some (.cells #[.int .i64 0, .int .i64 0, .string ⟨#[]⟩, .int .i64 0, .int .i64 0] 74 (0, 0)) := kept_block hbN (drew_block (last_block _ _ rfl)); have hNx := (block_facts hK).1; have hNf := (block_facts hK).2; have hNl := (Array.getElem?_eq_some_iff.1 hK).1) | (have hK : wN.heap[Y1.heap.size]? = some (.cells #[.int .i64 0, .int .i64 0, .string ⟨#[]⟩, .int .i64 0, .int .i64 0] 74 (0, 0)) := kept_block hbN (last_block Y1.drew _ rfl); have hNx := (block_facts hK).1; have hNf := (block_facts hK).2; have hNl := (Array.getElem?_eq_some_iff.1 hK).1) | (have hK : wN.heap[Y1.heap.size]? = some (.cells #[.int .i64 0, .int .i64 0, .string ⟨#[]⟩, .int .i64 0, .int .i64 0] 74 (0, 0)) := kept_block hbN (last_block Y1 _ rfl); have hNx := (block_facts hK).1; have hNf := (block_facts hK).2; have hNl := (Array.getElem?_eq_some_iff.1 hK).1) | skip)))
    all_goals
      have HbN : Hid (Below Y1.heap.size Y1 wN) := (by first | exact (Below.refl Y1.heap.size Y1).drew.trans hbN | exact ((Below.refl Y1.heap.size Y1).alloc (Nat.le_refl _) _).drew.trans (hbN.mono (by show Y1.heap.size ≤ (World.alloc _ _).heap.size; simp)))
      have hsN1 := (unhide HbN).size
      refine ⟨rfl, _, _, _, _, _, _, _, rfl, ?_, ?_, ?_, ?_, ?_, ?_, ?_⟩
      · first | with_reducible exact last_block _ _ rfl | with_reducible exact setRow5 hK | with_reducible exact drew_block (last_block _ _ rfl) | with_reducible exact drew_block (setRow5 hK)
      · refine kept_block (X := Y1) ?_ (unhide KC)
        repeat (first | with_reducible exact unhide HbN | with_reducible refine bdrew ?_ | (with_reducible refine bset ?_ ?_; (focus (first | omega | (simp; done) | (simp; omega)))) | (with_reducible refine balloc ?_ ?_; (focus (first | omega | (simp; done) | (simp; omega)))))
      · refine kept_block (X := Y1) ?_ (unhide KSx)
        repeat (first | with_reducible exact unhide HbN | with_reducible refine bdrew ?_ | (with_reducible refine bset ?_ ?_; (focus (first | omega | (simp; done) | (simp; omega)))) | (with_reducible refine balloc ?_ ?_; (focus (first | omega | (simp; done) | (simp; omega)))))
      · refine (unhide HRx).kept ?_
        repeat (first | with_reducible exact unhide HbN | with_reducible refine bdrew ?_ | (with_reducible refine bset ?_ ?_; (focus (first | omega | (simp; done) | (simp; omega)))) | (with_reducible refine balloc ?_ ?_; (focus (first | omega | (simp; done) | (simp; omega)))))
      · refine kept_block (X := Y1) ?_ (unhide KGx)
        repeat (first | with_reducible exact unhide HbN | with_reducible refine bdrew ?_ | (with_reducible refine bset ?_ ?_; (focus (first | omega | (simp; done) | (simp; omega)))) | (with_reducible refine balloc ?_ ?_; (focus (first | omega | (simp; done) | (simp; omega)))))
      · refine (unhide HOx).trans (Only.of ?_)
        repeat (first | with_reducible exact unhide HbN | with_reducible refine bdrew ?_ | (with_reducible refine bset ?_ ?_; (focus (first | omega | (simp; done) | (simp; omega)))) | (with_reducible refine balloc ?_ ?_; (focus (first | omega | (simp; done) | (simp; omega)))))
      · omega
  · rintro _ Z ⟨q, x12, x13, x14, x15, x16, x17, rfl, kE, kB, kS, hrZ, kG, hoZ, hq⟩
    clear HEV HR1 KG1 KB1 HO1 KA KA2 KC KGx KSx HRx HOx hszx rule1 rule2
    have hk2 := unhide H_hk2
    subst hk2
    have KE := hide kE
    have KB := hide kB
    have KS := hide kS
    have KG := hide kG
    have HOZ := hide hoZ
    have lq := (Array.getElem?_eq_some_iff.1 kE).1
    have lB := (Array.getElem?_eq_some_iff.1 kB).1
    have lS := (Array.getElem?_eq_some_iff.1 kS).1
    have lG := (Array.getElem?_eq_some_iff.1 kG).1
    obtain ⟨hxE, hfE⟩ := block_facts kE
    have HRZ := hide hrZ
    clear kE kB kS kG hoZ hrZ
    go_wp2_with fail
    refine (unhide HDO _ (unhide HRZ)).mono ?_
    rintro y w3 ⟨rfl, hr3, ho3⟩
    have KE3 := hide ((ho3.block q lq (by omega)).trans (unhide KE))
    have KB3 := hide ((ho3.block W.heap.size lB (by omega)).trans (unhide KB))
    have KS3 := hide ((ho3.block w1.heap.size lS (by omega)).trans (unhide KS))
    have KG3 := hide ((ho3.block g lG hgb).trans (unhide KG))
    have HO3 := hide ((unhide HOZ).trans (only_both ho3))
    have HR3 := hide hr3
    have hs3 := ho3.size
    clear hr3 ho3 hxE hfE KE KB KS KG HOZ HRZ HDO
    go_wp2_with fail
    refine (unhide HS2 _ ((unhide HR3).kept ((Below.refl _ _).alloc (Nat.le_refl _) _))).mono ?_
    rintro e w4 ⟨rfl, hb4⟩
    obtain ⟨kR4, hl4, hbW4⟩ := blk1 hb4
    have kE4 := kept_block hbW4 (unhide KE3)
    have kB4 := kept_block hbW4 (unhide KB3)
    have kS4 := kept_block hbW4 (unhide KS3)
    have kG4 := kept_block hbW4 (unhide KG3)
    have HR4 := hide ((unhide HR3).kept hbW4)
    have HO4 := hide ((unhide HO3).trans (Only.of hbW4))
    obtain ⟨hxr, hfr⟩ := block_facts (unhide HR4).run
    obtain ⟨hxE, hfE⟩ := block_facts kE4
    obtain ⟨hxB, hfB⟩ := block_facts kB4
    obtain ⟨hxS, hfS⟩ := block_facts kS4
    obtain ⟨hxR, hfR⟩ := block_facts kR4
    obtain ⟨hxg, hfg⟩ := block_facts kG4
    have KG4 := hide kG4
    have l1 := (Array.getElem?_eq_some_iff.1 kE4).1
    have l2 := (Array.getElem?_eq_some_iff.1 kB4).1
    have l3 := (Array.getElem?_eq_some_iff.1 kS4).1
    have l4 := (Array.getElem?_eq_some_iff.1 kG4).1
    have l5 := (unhide HR4).lt.1
    have n1 : ¬ q = w4.heap.size := by omega
    have n2 : ¬ W.heap.size = w4.heap.size := by omega
    have n3 : ¬ w1.heap.size = w4.heap.size := by omega
    have n4 : ¬ g = w4.heap.size := by omega
    have n5 : ¬ r = w4.heap.size := by omega
    have n6 : ¬ w3.heap.size = w4.heap.size := by omega
    have n7 : ¬ w3.heap.size = g := by omega
    have n8 : ¬ g = w3.heap.size := by omega
    clear hb4 kR4 hbW4 kE4 kB4 kS4 kG4 HR3 KE3 KB3 KS3 KG3 HO3 HS2 lq lB lS lG
    go_wp2_with fail
    refine (must_true _ _).mono ?_
    rintro e _ ⟨rfl, rfl⟩
    go_wp2_with fail
    refine (unhide HSD _ ((unhide HR4).kept ((Below.refl _ _).alloc (Nat.le_refl _) _)) (ablk (unhide KG4))).mono ?_
    rintro e w9 ⟨rfl, kp9, may9, hr9, hk9, ho9, h1, h2⟩
    have H9 := hide (And.intro hr9 (And.intro hk9 (And.intro h1 h2)))
    have HO9 := hide (((unhide HO4).trans (Only.of ((Below.refl _ _).alloc (Nat.le_refl _) _))).trans ho9)
    clear hr9 hk9 ho9 h1 h2
    go_wp2
    exact bodyPost_end (v := .tuple #[]) (by simp [results, Tryz.results29, go_sem]) rfl ⟨rfl, kp9, may9, (unhide H9).1, (unhide H9).2.1, unhide HO9, (unhide H9).2.2.1, (unhide H9).2.2.2⟩
end
end Go.Proofs.YtjfmiomopfjecabGreat

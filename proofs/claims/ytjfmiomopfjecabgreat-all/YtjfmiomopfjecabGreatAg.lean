/- Texts laid together: RefStep, RefEv, RefEv2, RefOffer, RefTake, PatchRef, PatchRefTwo, PatchRun, RefBuilt, RefInst, RefInst2, RefTick, RefPlanned. -/
import Derived.Test.YtjfmiomopfjecabGreatAf
import Derived.Deep.RegionHeld3
import Derived.Test.YtjfmiomopfjecabGreatAc
import Derived.BigQuiet
import Derived.Test.YtjfmiomopfjecabGreatAd
import Derived.BigRegion
import Derived.Test.YtjfmiomopfjecabGreatAa
import Derived.Test.YtjfmiomopfjecabGreatAb
import Derived.Test.YtjfmiomopfjecabGreatAe
/- The document's device: the plan's cells; a record with another phase; a failure; boots, confirms. -/
namespace Go.Proofs.YtjfmiomopfjecabGreat
open Go.RowKit Go.Lib

/-- a page that is to be written, as a text -/
def wrG (x : M.Wr) : GW := (x.1, M.mk 16 x.2)
section
variable {X : World} {g q : Nat} {d : M.Dev} {l : List GW} {err ver : Int} {text : ByteArray} {ask wait next age : Int} {on : Bool}
/-- the plan's numbers, all of them others -/
theorem PlanAt.turn {Y : World} {err' ver' : Int} {text' : ByteArray} {ask' wait' next' age' : Int} {on' : Bool} (h : PlanAt X q l err ver text ask wait next age on)
    (hq : ∀ va vt, X.heap[q]? = some (.cells (plC va vt err ver text ask wait next age on) 149 (0, 0)) → Y.heap[q]? = some (.cells (plC va vt err' ver' text' ask' wait' next' age' on') 149 (0, 0)))
    (ho : ∀ {e : TypeId} {v : Value} {n : Nat} {xs : List Value}, X.ownsRow (q + 1) e 1 v n xs → Y.ownsRow (q + 1) e 1 v n xs) : PlanAt Y q l err' ver' text' ask' wait' next' age' on' := by
  obtain ⟨a, b, c, d, hh, h1, h2⟩ := h.body
  exact ⟨a, b, c, d, hq _ _ hh, ho h1, ho h2⟩
theorem PlanAt.setErr (h : PlanAt X q l err ver text ask wait next age on) (x : Int) : PlanAt (X.setCell ⟨q, 2, none⟩ (.int .i64 x)) q l x ver text ask wait next age on := h.turn (fun _ _ hh => (setCell_in hh 2 _).trans rfl) (fun hh => own_low (Nat.lt_succ_self _) hh)
theorem PlanAt.setVer (h : PlanAt X q l err ver text ask wait next age on) (x : Int) : PlanAt (X.setCell ⟨q, 3, none⟩ (.int .i64 x)) q l err x text ask wait next age on := h.turn (fun _ _ hh => (setCell_in hh 3 _).trans rfl) (fun hh => own_low (Nat.lt_succ_self _) hh)
theorem PlanAt.setText (h : PlanAt X q l err ver text ask wait next age on) (x : ByteArray) : PlanAt (X.setCell ⟨q, 4, none⟩ (.string x)) q l err ver x ask wait next age on := h.turn (fun _ _ hh => (setCell_in hh 4 _).trans rfl) (fun hh => own_low (Nat.lt_succ_self _) hh)
theorem PlanAt.setAsk (h : PlanAt X q l err ver text ask wait next age on) (x : Int) : PlanAt (X.setCell ⟨q, 5, none⟩ (.int .i64 x)) q l err ver text x wait next age on := h.turn (fun _ _ hh => (setCell_in hh 5 _).trans rfl) (fun hh => own_low (Nat.lt_succ_self _) hh)
theorem PlanAt.setWait (h : PlanAt X q l err ver text ask wait next age on) (x : Int) : PlanAt (X.setCell ⟨q, 6, none⟩ (.int .i64 x)) q l err ver text ask x next age on := h.turn (fun _ _ hh => (setCell_in hh 6 _).trans rfl) (fun hh => own_low (Nat.lt_succ_self _) hh)
theorem PlanAt.setNext (h : PlanAt X q l err ver text ask wait next age on) (x : Int) : PlanAt (X.setCell ⟨q, 7, none⟩ (.int .i64 x)) q l err ver text ask wait x age on := h.turn (fun _ _ hh => (setCell_in hh 7 _).trans rfl) (fun hh => own_low (Nat.lt_succ_self _) hh)
theorem PlanAt.setAge (h : PlanAt X q l err ver text ask wait next age on) (x : Int) : PlanAt (X.setCell ⟨q, 8, none⟩ (.int .i64 x)) q l err ver text ask wait next x on := h.turn (fun _ _ hh => (setCell_in hh 8 _).trans rfl) (fun hh => own_low (Nat.lt_succ_self _) hh)
theorem PlanAt.setOn (h : PlanAt X q l err ver text ask wait next age on) (x : Bool) : PlanAt (X.setCell ⟨q, 9, none⟩ (.bool x)) q l err ver text ask wait next age x := h.turn (fun _ _ hh => (setCell_in hh 9 _).trans rfl) (fun hh => own_low (Nat.lt_succ_self _) hh)
/-- what its cells hold -/
theorem PlanAt.facts (h : PlanAt X q l err ver text ask wait next age on) : (∃ (ao : Option Addr) (ca : Nat) (to : Option Addr) (ct : Nat), ∀ o, X.cell? ⟨q, o, none⟩ = (plC (.slice ao l.length ca) (.slice to l.length ct) err ver text ask wait next age on)[o]?) ∧ ∀ o, X.frozen? ⟨q, o, none⟩ = false := by
  obtain ⟨a, b, c, d, hh, _, _⟩ := h.body
  exact ⟨⟨a, b, c, d, (block_facts hh).1⟩, (block_facts hh).2⟩
theorem RefAt.set (h : RefAt X g d) {o : Nat} {v : Value} (hne : ¬ g = q) : RefAt (X.setCell ⟨q, o, none⟩ v) g d := set_block h hne
theorem low_set {Y : World} {o : Nat} {v : Value} (h : Below q X Y) : Below q X (Y.setCell ⟨q, o, none⟩ v) := bset (Nat.le_refl _) h
set_option maxRecDepth 10000 in
theorem refFails_any (h : PlanAt X q l err ver text ask wait next age on) (e : Nat) :
    Calls Tryz.prog 119 #[.pointer (some ⟨q, 0, none⟩), .int .i64 e] X fun y w' => y = .returned (.tuple #[]) ∧ PlanAt w' q l e 0 ⟨#[]⟩ (-1) wait next age on ∧ Below q X w' := by
  have HP := hide ((((h.setErr e).setVer 0).setText ⟨#[]⟩).setAsk (-1))
  have HB := hide (low_set (o := 5) (v := .int .i64 (-1)) (low_set (o := 4) (v := .string ⟨#[]⟩) (low_set (o := 3) (v := .int .i64 0) (low_set (o := 2) (v := .int .i64 e) (Below.refl q X)))))
  have hql := h.ref
  obtain ⟨⟨ao, ca, to, ct, hx⟩, hf⟩ := h.facts
  clear h
  go_enter Tryz.func119, Tryz.ntmps119
  go_wp2
  exact bodyPost_end (v := .tuple #[]) (by simp [results, Tryz.results119, go_sem]) rfl ⟨rfl, unhide HP, unhide HB⟩
theorem page_part {F : Nat → Nat} (hF : ∀ j, F j < 256) {p a n : Nat} (hp : p < 23) (h : a + n ≤ 16) : ((pageT F p).extract a (a + n)).size = n ∧ ∀ i, i < n → M.bz ((pageT F p).extract a (a + n)) i = F (16 * p + (a + i)) := by
  have hz : (pageT F p).size = 16 := pageT_size hp
  rw [M.extract_mk _ _ _ (by omega)]
  refine ⟨M.mk_size _ _, fun i hi => ?_⟩
  rw [M.bz_mk (fun j _ => M.bz_lt _ _) hi, pageT_bz hF hp (by omega)]
set_option maxRecDepth 10000 in
set_option maxHeartbeats 1000000 in
theorem refSame_any (hR : RefAt X g d) (hF : ∀ j, d.F j < 256) (h : PlanAt X q l err ver text ask wait next age on) (hl : l.length ≤ 50) (k phase tries : Nat) (hk : k ≤ 1) (h2 : phase < 256) (h3 : tries < 256) :
    Calls Tryz.prog 144 #[.pointer (some ⟨g, 0, none⟩), .pointer (some ⟨q, 0, none⟩), .int .i64 k, .int .i64 phase, .int .i64 tries] X fun e w' =>
      e = .returned (.tuple #[]) ∧ PlanAt w' q (l ++ [wrG (M.sameW d.F k phase tries)]) err ver text ask wait next age on ∧ Below q X w' := by
  have hw := recAt_le d.F
  obtain ⟨z1, b1⟩ := page_part hF (p := M.recAt d.F) (a := 4) (n := 2) (by omega) (by omega)
  obtain ⟨z2, b2⟩ := page_part hF (p := M.recAt d.F) (a := 6) (n := 4) (by omega) (by omega)
  have HW := hide (refWhere_any hR hF)
  have HP := hide (refPage_any hR hF (M.recAt d.F))
  have H1 : Hid (∀ Y : World, RefAt Y g d → Calls Tryz.prog 93 #[.pointer (some ⟨g, 0, none⟩), .int .i64 1] Y fun e w' => e = .returned (.int .i64 (M.fld d.F 1)) ∧ Y = w') := fun Y hY => refField_any hY hF 1 (by omega)
  have HN : Hid (∀ Y : World, RefAt Y g d → PlanAt Y q l err ver text ask wait next age on → Calls Tryz.prog 154 #[.pointer (some ⟨g, 0, none⟩), .pointer (some ⟨q, 0, none⟩), .int .i64 k, .int .i64 (M.fld d.F 1), .int .i64 phase, .int .i64 tries, .string ((pageT d.F (M.recAt d.F)).extract 4 6), .string ((pageT d.F (M.recAt d.F)).extract 6 10), .int .i64 0] Y fun e w' =>
      e = .returned (.tuple #[]) ∧ PlanAt w' q (l ++ [wrG (M.sameW d.F k phase tries)]) err ver text ask wait next age on ∧ Below q Y w') := by
    intro Y hY hP
    have hn := refNotes_any hY hF hP hl k (M.fld d.F 1) phase tries 0 hk (hF _) h2 h3 (by omega) _ _ z1 z2 _ rfl
    have e : ((if k % 2 = 1 then M.recAt d.F else 1 - M.recAt d.F), recT16 ((M.fld d.F 0 + 1 + k) % 256) (M.fld d.F 1) phase tries ((pageT d.F (M.recAt d.F)).extract 4 (4 + 2)) ((pageT d.F (M.recAt d.F)).extract 6 (6 + 4)) 0) = wrG (M.sameW d.F k phase tries) := by
      unfold wrG M.sameW M.noteW recT16
      rw [b1 0 (by omega), b1 1 (by omega), b2 0 (by omega), b2 1 (by omega), b2 2 (by omega), b2 3 (by omega)]
      rfl
    rw [e] at hn
    exact hn
  have HRF := hide hR
  have HPL := hide h
  have hz : (pageT d.F (M.recAt d.F)).size = 16 := pageT_size (by omega)
  have i6 : (6 : Int) ≤ ((pageT d.F (M.recAt d.F)).size : Int) := by omega
  have i10 : (10 : Int) ≤ ((pageT d.F (M.recAt d.F)).size : Int) := by omega
  clear hR h z1 b1 z2 b2 hF hz
  generalize pageT d.F (M.recAt d.F) = P at *
  generalize M.recAt d.F = ra at *
  generalize M.fld d.F 1 = f1 at *
  generalize wrG (M.sameW d.F k phase tries) = G at *
  go_enter Tryz.func144, Tryz.ntmps144
  (go_wp2_with fail); (refine (unhide HW).mono ?_); (rintro e w' ⟨rfl, rfl⟩)
  (go_wp2_with fail); (refine (unhide HP).mono ?_); (rintro e w' ⟨rfl, rfl⟩)
  go_wp2_with fail
  go_region_held3 (fun _ => True) (first | trivial | (intros; trivial)) ((first
    | (go_at_call 93; with_reducible refine (unhide H1 _ ((unhide HRF).kept (Below.refl _ _).drew)).mono ?_; rintro y wN ⟨rfl, rfl⟩)
    | (go_at_call 154; with_reducible refine (unhide HN _ ((unhide HRF).kept (Below.refl _ _).drew) ((unhide HPL).kept (Below.refl _ _).drew)).mono ?_; rintro y w9 ⟨rfl, hp9, hb9⟩)))
  all_goals
    have HP9 := hide hp9
    have HB9 : Hid (Below q X w9) := Below.trans (Below.refl q X).drew hb9
    clear hp9 hb9
    go_wp2
    exact bodyPost_end (v := .tuple #[]) (by simp [results, Tryz.results144, go_sem]) rfl ⟨rfl, unhide HP9, unhide HB9⟩
end
end Go.Proofs.YtjfmiomopfjecabGreat

/- The document's device: boots, confirms, offers, takes: each comes to what it should. -/
namespace Go.Proofs.YtjfmiomopfjecabGreat
open Go.RowKit Go.Lib

/-- the plan in memory is this one -/
def PlanIs (X : World) (q : Nat) (p : M.Plan) : Prop := PlanAt X q (p.ws.map wrG) p.err 0 p.text p.ask p.wait p.next p.age p.on
theorem PlanIs.kept {X Y : World} {q : Nat} {p : M.Plan} (h : PlanIs X q p) (hb : Below X.heap.size X Y) : PlanIs Y q p := PlanAt.kept h hb
/-- so a piece of an event leaves things: the plan is this one, nothing ahead of it is another -/
def Comes (X : World) (q : Nat) (p : M.Plan) (e : Ending) (w' : World) : Prop := e = .returned (.tuple #[]) ∧ PlanIs w' q p ∧ Below q X w'
section
variable {X : World} {g q : Nat} {d : M.Dev}
set_option maxRecDepth 10000 in
set_option maxHeartbeats 1000000 in
theorem refBoots_any (hI : M.Inv' d) (hR : RefAt X g d) (hgq : g < q) (h : PlanIs X q (M.idle d)) :
    Calls Tryz.prog 120 #[.pointer (some ⟨g, 0, none⟩), .pointer (some ⟨q, 0, none⟩)] X fun e w' => Comes X q (M.boots d) e w' := by
  have hF := hI.2.1.bytes
  have hne : ¬ g = q := by omega
  have HP4 : Hid (PlanAt ((((X.setCell ⟨q, 9, none⟩ (.bool true)).setCell ⟨q, 6, none⟩ (.int .i64 0)).setCell ⟨q, 7, none⟩ (.int .i64 1)).setCell ⟨q, 8, none⟩ (.int .i64 0)) q [] 0 0 ⟨#[]⟩ (-1) 0 1 0 true) := (((PlanAt.setOn h true).setWait 0).setNext 1).setAge 0
  have HR4 : Hid (RefAt ((((X.setCell ⟨q, 9, none⟩ (.bool true)).setCell ⟨q, 6, none⟩ (.int .i64 0)).setCell ⟨q, 7, none⟩ (.int .i64 1)).setCell ⟨q, 8, none⟩ (.int .i64 0)) g d) := (((hR.set hne).set hne).set hne).set hne
  have HB4 : Hid (Below q X ((((X.setCell ⟨q, 9, none⟩ (.bool true)).setCell ⟨q, 6, none⟩ (.int .i64 0)).setCell ⟨q, 7, none⟩ (.int .i64 1)).setCell ⟨q, 8, none⟩ (.int .i64 0))) := low_set (low_set (low_set (low_set (Below.refl q X))))
  obtain ⟨⟨ao, ca, to, ct, hx⟩, hf⟩ := PlanAt.facts h
  have hql := PlanAt.ref h
  have H2 : Hid (∀ Y : World, RefAt Y g d → Calls Tryz.prog 93 #[.pointer (some ⟨g, 0, none⟩), .int .i64 2] Y fun e w' => e = .returned (.int .i64 (M.fld d.F 2)) ∧ Y = w') := fun Y hY => refField_any hY hF 2 (by omega)
  have H3 : Hid (∀ Y : World, RefAt Y g d → Calls Tryz.prog 93 #[.pointer (some ⟨g, 0, none⟩), .int .i64 3] Y fun e w' => e = .returned (.int .i64 (M.fld d.F 3)) ∧ Y = w') := fun Y hY => refField_any hY hF 3 (by omega)
  have HS : Hid (∀ (Y : World) (ph tr : Nat) (c : Int), ph < 256 → tr < 256 → c = tr → RefAt Y g d → PlanAt Y q [] 0 0 ⟨#[]⟩ (-1) 0 1 0 true → Calls Tryz.prog 144 #[.pointer (some ⟨g, 0, none⟩), .pointer (some ⟨q, 0, none⟩), .int .i64 0, .int .i64 ph, .int .i64 c] Y fun e w' => e = .returned (.tuple #[]) ∧ PlanAt w' q [wrG (M.sameW d.F 0 ph tr)] 0 0 ⟨#[]⟩ (-1) 0 1 0 true ∧ Below q Y w') := by
    rintro Y ph tr c h2 h3 rfl hY hP
    exact refSame_any hY hF hP (by show 0 ≤ 50; omega) 0 ph tr (by omega) h2 h3
  have b3 : M.fld d.F 3 < 256 := hF _
  have HE : Hid (M.boots d = ⟨if M.fld d.F 2 = 2 then (if M.fld d.F 3 = 0 then [M.sameW d.F 0 0 0] else [M.sameW d.F 0 2 (M.fld d.F 3 - 1)]) else [], 0, ⟨#[]⟩, -1, 0, 1, 0, true⟩) := rfl
  clear h hR hI hF
  by_cases c2 : M.fld d.F 2 = 2
  · by_cases c3 : M.fld d.F 3 = 0
    · have HE1 : Hid (M.boots d = ⟨[M.sameW d.F 0 0 0], 0, ⟨#[]⟩, -1, 0, 1, 0, true⟩) := by show _ = _; rw [HE.out, if_pos c2, if_pos c3]
      clear HE
      rw [c2] at H2
      rw [c3] at H3
      go_enter Tryz.func120, Tryz.ntmps120
      go_wp2_with fail
      generalize ((((X.setCell ⟨q, 9, none⟩ (.bool true)).setCell ⟨q, 6, none⟩ (.int .i64 0)).setCell ⟨q, 7, none⟩ (.int .i64 1)).setCell ⟨q, 8, none⟩ (.int .i64 0)) = X4 at *
      refine (unhide H2 _ (unhide HR4)).mono ?_
      rintro e _ ⟨rfl, rfl⟩
      go_wp2_with fail
      refine (unhide H3 _ (unhide HR4)).mono ?_
      rintro e _ ⟨rfl, rfl⟩
      go_wp2_with fail
      refine (unhide HS _ 0 0 _ (by omega) (by omega) rfl (unhide HR4) (unhide HP4)).mono ?_
      rintro e w9 ⟨rfl, hp9, hb9⟩
      have HP9 := hide hp9
      have HB9 := hide ((unhide HB4).trans hb9)
      clear hp9 hb9
      go_wp2
      refine bodyPost_end (v := .tuple #[]) (by simp [results, Tryz.results120, go_sem]) rfl ⟨rfl, ?_, unhide HB9⟩
      rw [HE1.out]
      exact unhide HP9
    · have HE1 : Hid (M.boots d = ⟨[M.sameW d.F 0 2 (M.fld d.F 3 - 1)], 0, ⟨#[]⟩, -1, 0, 1, 0, true⟩) := by show _ = _; rw [HE.out, if_pos c2, if_neg c3]
      clear HE
      rw [c2] at H2
      generalize M.fld d.F 3 = f3 at *
      have c3' : ¬ (f3 : Int) = 0 := by omega
      go_enter Tryz.func120, Tryz.ntmps120
      go_wp2_with fail
      generalize ((((X.setCell ⟨q, 9, none⟩ (.bool true)).setCell ⟨q, 6, none⟩ (.int .i64 0)).setCell ⟨q, 7, none⟩ (.int .i64 1)).setCell ⟨q, 8, none⟩ (.int .i64 0)) = X4 at *
      refine (unhide H2 _ (unhide HR4)).mono ?_
      rintro e _ ⟨rfl, rfl⟩
      go_wp2_with fail
      refine (unhide H3 _ (unhide HR4)).mono ?_
      rintro e _ ⟨rfl, rfl⟩
      go_wp2_with fail
      refine (unhide HS _ 2 (f3 - 1) _ (by omega) (by omega) (by omega) (unhide HR4) (unhide HP4)).mono ?_
      rintro e w9 ⟨rfl, hp9, hb9⟩
      have HP9 := hide hp9
      have HB9 := hide ((unhide HB4).trans hb9)
      clear hp9 hb9
      go_wp2
      refine bodyPost_end (v := .tuple #[]) (by simp [results, Tryz.results120, go_sem]) rfl ⟨rfl, ?_, unhide HB9⟩
      rw [HE1.out]
      exact unhide HP9
  · have HE1 : Hid (M.boots d = ⟨[], 0, ⟨#[]⟩, -1, 0, 1, 0, true⟩) := by show _ = _; rw [HE.out, if_neg c2]
    clear HE
    generalize M.fld d.F 2 = f2 at *
    have c2' : ¬ (f2 : Int) = 2 := by omega
    go_enter Tryz.func120, Tryz.ntmps120
    go_wp2_with fail
    generalize ((((X.setCell ⟨q, 9, none⟩ (.bool true)).setCell ⟨q, 6, none⟩ (.int .i64 0)).setCell ⟨q, 7, none⟩ (.int .i64 1)).setCell ⟨q, 8, none⟩ (.int .i64 0)) = X4 at *
    refine (unhide H2 _ (unhide HR4)).mono ?_
    rintro e _ ⟨rfl, rfl⟩
    go_wp2
    refine bodyPost_ret (v := .tuple #[]) (by simp [results, Tryz.results120, go_sem]) rfl ⟨rfl, ?_, unhide HB4⟩
    rw [HE1.out]
    exact unhide HP4
end
end Go.Proofs.YtjfmiomopfjecabGreat

/- The document's device: confirms, takes. -/
namespace Go.Proofs.YtjfmiomopfjecabGreat
open Go.RowKit Go.Lib

section
variable {X : World} {g q : Nat} {d : M.Dev} {l : List GW} {err ver : Int} {text : ByteArray} {ask wait next age : Int} {on : Bool}
/-- a record with the lengths and the versions of the one that there is -/
theorem refNotes_own (hR : RefAt X g d) (hF : ∀ j, d.F j < 256) (h : PlanAt X q l err ver text ask wait next age on) (hl : l.length ≤ 50) (k kept phase tries there : Nat) (c1 c2 c3 c4 : Int) (hk : k ≤ 1) (h1 : kept < 256) (h2 : phase < 256) (h3 : tries < 256) (h4 : there < 256) (e1 : c1 = kept) (e2 : c2 = phase) (e3 : c3 = tries) (e4 : c4 = there) :
    Calls Tryz.prog 154 #[.pointer (some ⟨g, 0, none⟩), .pointer (some ⟨q, 0, none⟩), .int .i64 k, .int .i64 c1, .int .i64 c2, .int .i64 c3, .string ((pageT d.F (M.recAt d.F)).extract 4 6), .string ((pageT d.F (M.recAt d.F)).extract 6 10), .int .i64 c4] X fun e w' =>
      e = .returned (.tuple #[]) ∧ PlanAt w' q (l ++ [wrG (M.noteW d.F k kept phase tries (M.fld d.F 4) (M.fld d.F 5) (M.fld d.F 6) (M.fld d.F 7) (M.fld d.F 8) (M.fld d.F 9) there)]) err ver text ask wait next age on ∧ Below q X w' := by
  subst e1 e2 e3 e4
  have hw := recAt_le d.F
  obtain ⟨z1, b1⟩ := page_part hF (p := M.recAt d.F) (a := 4) (n := 2) (by omega) (by omega)
  obtain ⟨z2, b2⟩ := page_part hF (p := M.recAt d.F) (a := 6) (n := 4) (by omega) (by omega)
  have hn := refNotes_any hR hF h hl k kept phase tries there hk h1 h2 h3 h4 _ _ z1 z2 _ rfl
  have e : ((if k % 2 = 1 then M.recAt d.F else 1 - M.recAt d.F), recT16 ((M.fld d.F 0 + 1 + k) % 256) kept phase tries ((pageT d.F (M.recAt d.F)).extract 4 (4 + 2)) ((pageT d.F (M.recAt d.F)).extract 6 (6 + 4)) there) = wrG (M.noteW d.F k kept phase tries (M.fld d.F 4) (M.fld d.F 5) (M.fld d.F 6) (M.fld d.F 7) (M.fld d.F 8) (M.fld d.F 9) there) := by
    unfold wrG M.noteW recT16
    rw [b1 0 (by omega), b1 1 (by omega), b2 0 (by omega), b2 1 (by omega), b2 2 (by omega), b2 3 (by omega)]
    rfl
  rw [e] at hn
  exact hn
set_option maxRecDepth 10000 in
set_option maxHeartbeats 1000000 in
theorem refConfirms_any (hI : M.Inv' d) (hR : RefAt X g d) (h : PlanIs X q (M.idle d)) :
    Calls Tryz.prog 126 #[.pointer (some ⟨g, 0, none⟩), .pointer (some ⟨q, 0, none⟩)] X fun e w' => Comes X q (M.confirms d) e w' := by
  have hF := hI.2.1.bytes
  have hk1 := hI.2.1.kept
  have hw := recAt_le d.F
  have H2 : Hid (Calls Tryz.prog 93 #[.pointer (some ⟨g, 0, none⟩), .int .i64 2] X fun e w' => e = .returned (.int .i64 (M.fld d.F 2)) ∧ X = w') := refField_any hR hF 2 (by omega)
  have HW := hide (refWhere_any hR hF)
  have HP := hide (refPage_any hR hF (M.recAt d.F))
  have H1 : Hid (∀ Y : World, RefAt Y g d → Calls Tryz.prog 93 #[.pointer (some ⟨g, 0, none⟩), .int .i64 1] Y fun e w' => e = .returned (.int .i64 (M.fld d.F 1)) ∧ Y = w') := fun Y hY => refField_any hY hF 1 (by omega)
  have HN : Hid (∀ (Y : World) (c : Int), c = ((1 - M.fld d.F 1 : Nat) : Int) → RefAt Y g d → PlanIs Y q (M.idle d) → Calls Tryz.prog 154 #[.pointer (some ⟨g, 0, none⟩), .pointer (some ⟨q, 0, none⟩), .int .i64 0, .int .i64 c, .int .i64 0, .int .i64 0, .string ((pageT d.F (M.recAt d.F)).extract 4 6), .string ((pageT d.F (M.recAt d.F)).extract 6 10), .int .i64 0] Y fun e w' =>
      e = .returned (.tuple #[]) ∧ PlanAt w' q [wrG (M.noteW d.F 0 (1 - M.fld d.F 1) 0 0 (M.fld d.F 4) (M.fld d.F 5) (M.fld d.F 6) (M.fld d.F 7) (M.fld d.F 8) (M.fld d.F 9) 0)] 0 0 ⟨#[]⟩ (-1) d.wait d.next d.age d.on ∧ Below q Y w') := by
    intro Y c hc hY hP
    exact refNotes_own hY hF hP (by show 0 ≤ 50; omega) 0 (1 - M.fld d.F 1) 0 0 0 c 0 0 0 (by omega) (by omega) (by omega) (by omega) (by omega) hc rfl rfl rfl
  have HFA : Hid (Calls Tryz.prog 119 #[.pointer (some ⟨q, 0, none⟩), .int .i64 12] X fun y w' => y = .returned (.tuple #[]) ∧ PlanAt w' q [] 12 0 ⟨#[]⟩ (-1) d.wait d.next d.age d.on ∧ Below q X w') := refFails_any h 12
  have HRF := hide hR
  have HPL := hide h
  have hz : (pageT d.F (M.recAt d.F)).size = 16 := pageT_size (by omega)
  have i6 : (6 : Int) ≤ ((pageT d.F (M.recAt d.F)).size : Int) := by omega
  have i10 : (10 : Int) ≤ ((pageT d.F (M.recAt d.F)).size : Int) := by omega
  by_cases c2 : M.fld d.F 2 = 2
  · have HE1 : Hid (M.confirms d = ⟨[M.noteW d.F 0 (1 - M.fld d.F 1) 0 0 (M.fld d.F 4) (M.fld d.F 5) (M.fld d.F 6) (M.fld d.F 7) (M.fld d.F 8) (M.fld d.F 9) 0], 0, ⟨#[]⟩, -1, d.wait, d.next, d.age, d.on⟩) := by
      show _ = _
      unfold M.confirms
      rw [if_neg (by omega)]
    clear hR h hz hI hF HFA
    rw [c2] at H2
    generalize M.noteW d.F 0 (1 - M.fld d.F 1) 0 0 (M.fld d.F 4) (M.fld d.F 5) (M.fld d.F 6) (M.fld d.F 7) (M.fld d.F 8) (M.fld d.F 9) 0 = G at *
    generalize pageT d.F (M.recAt d.F) = P at *
    generalize M.recAt d.F = ra at *
    generalize M.fld d.F 1 = f1 at *
    have hw1 : IntKind.i64.wrap (1 - (f1 : Int)) = 1 - (f1 : Int) := IntWalk.i64_in _ ⟨by omega, by omega⟩
    go_enter Tryz.func126, Tryz.ntmps126
    (go_wp2_with fail); (refine (unhide H2).mono ?_); (rintro e w' ⟨rfl, rfl⟩)
    (go_wp2_with fail); (refine (unhide HW).mono ?_); (rintro e w' ⟨rfl, rfl⟩)
    (go_wp2_with fail); (refine (unhide HP).mono ?_); (rintro e w' ⟨rfl, rfl⟩)
    go_wp2_with fail
    go_region_held3 (fun _ => True) (first | trivial | (intros; trivial)) ((first
      | (go_at_call 93; with_reducible refine (unhide H1 _ ((unhide HRF).kept (Below.refl _ _).drew)).mono ?_; rintro y wN ⟨rfl, rfl⟩)
      | (go_at_call 154; with_reducible refine (unhide HN _ _ (by omega) ((unhide HRF).kept (Below.refl _ _).drew) ((unhide HPL).kept (Below.refl _ _).drew)).mono ?_; rintro y w9 ⟨rfl, hp9, hb9⟩)))
    all_goals
      have HP9 := hide hp9
      have HB9 : Hid (Below q X w9) := Below.trans (Below.refl q X).drew hb9
      clear hp9 hb9
      go_wp2
      refine bodyPost_end (v := .tuple #[]) (by simp [results, Tryz.results126, go_sem]) rfl ⟨rfl, ?_, unhide HB9⟩
      rw [HE1.out]
      exact unhide HP9
  · have HE1 : Hid (M.confirms d = M.fails d 12) := by
      show _ = _
      unfold M.confirms
      rw [if_pos c2]
    clear hR h hz hI hF
    generalize M.fld d.F 2 = f2 at *
    have c2' : ¬ (f2 : Int) = 2 := by omega
    go_enter Tryz.func126, Tryz.ntmps126
    (go_wp2_with fail); (refine (unhide H2).mono ?_); (rintro e w' ⟨rfl, rfl⟩)
    go_wp2_with fail
    refine (unhide HFA).mono ?_
    rintro e w9 ⟨rfl, hp9, hb9⟩
    have HP9 := hide hp9
    have HB9 := hide hb9
    clear hp9 hb9
    go_wp2
    refine bodyPost_ret (v := .tuple #[]) (by simp [results, Tryz.results126, go_sem]) rfl ⟨rfl, ?_, unhide HB9⟩
    rw [HE1.out]
    exact unhide HP9
end
end Go.Proofs.YtjfmiomopfjecabGreat

/- The document's device: an offer. -/
namespace Go.Proofs.YtjfmiomopfjecabGreat
open Go.RowKit Go.Lib

theorem long_bz {s : ByteArray} (hs : s.size ≤ 48) {j : Nat} (hj : j < 48) : M.bz (s ++ (M.mk (48 - s.size) fun _ => 0)) j = M.bz s j := by
  rw [M.bz_append]
  by_cases h : j < s.size
  · rw [if_pos h]
  · rw [if_neg h, M.bz_mk (fun _ _ => by omega) (by omega), M.bz_out s j (by omega)]
theorem long_size {s : ByteArray} (hs : s.size ≤ 48) : (s ++ (M.mk (48 - s.size) fun _ => 0)).size = 48 := by simp [M.mk_size]; omega
theorem long_part {s t : ByteArray} (hz : t.size = 48) (ht : ∀ j, j < 48 → M.bz t j = M.bz s j) {p a : Nat} (ha : a + 16 ≤ 48) : (t.extract a (a + 16)).size ≤ 16 ∧ ((p, M.mk 16 (M.bz (t.extract a (a + 16)))) : GW) = wrG (M.textW p s a) := by
  rw [M.extract_mk _ _ _ (by omega)]
  refine ⟨by rw [M.mk_size]; omega, ?_⟩
  unfold wrG M.textW
  refine congrArg (Prod.mk p) (M.mk_congr fun j hj => ?_)
  rw [M.bz_mk (fun j _ => M.bz_lt _ _) hj, ht _ (by omega)]
section
variable {X : World} {g q : Nat} {d : M.Dev}
set_option maxRecDepth 10000 in
set_option maxHeartbeats 4000000 in
theorem offers_busy (hI : M.Inv' d) (hkey : d.key.size ≤ 16) (s : ByteArray) (hs : s.size ≤ maxLen) (hR : RefAt X g d) (h : PlanIs X q (M.idle d)) (c2 : M.fld d.F 2 = 2) :
    Calls Tryz.prog 124 #[.pointer (some ⟨g, 0, none⟩), .pointer (some ⟨q, 0, none⟩), .string s] X fun e w' => Comes X q (M.offers d s) e w' := by
  have hF := hI.2.1.bytes
  have hk1 := hI.2.1.kept
  have HPH : Hid (Calls Tryz.prog 93 #[.pointer (some ⟨g, 0, none⟩), .int .i64 2] X fun e w' => e = .returned (.int .i64 (M.fld d.F 2)) ∧ X = w') := refField_any hR hF 2 (by omega)
  have HK1 : Hid (Calls Tryz.prog 93 #[.pointer (some ⟨g, 0, none⟩), .int .i64 1] X fun e w' => e = .returned (.int .i64 (M.fld d.F 1)) ∧ X = w') := refField_any hR hF 1 (by omega)
  have HVE : Hid (Calls Tryz.prog 91 #[.pointer (some ⟨g, 0, none⟩), .int .i64 (M.fld d.F 1)] X fun e w' => e = .returned (.int .i64 (M.keptV d.F)) ∧ X = w') := refVersion_any hR hF _ hk1
  have HMA := hide (fun Y : World => refManifest_any d.key s Y hkey hs)
  have hxk := hR.keyC
  have hgl := hR.lt
  have HRF := hide hR
  have HPL := hide h
  have HFA : Hid (∀ (Y : World) (e : Nat) (c : Int), c = e → PlanIs Y q (M.idle d) → Calls Tryz.prog 119 #[.pointer (some ⟨q, 0, none⟩), .int .i64 c] Y fun y w' => y = .returned (.tuple #[]) ∧ PlanIs w' q (M.fails d e) ∧ Below q Y w') := by
    rintro Y e c rfl hY
    exact refFails_any hY e
  have hql := PlanAt.ref h
  have HE1 : Hid (M.offers d s = M.fails d 11) := by show _ = _; unfold M.offers; rw [if_pos c2]
  clear hR h hI hF hs hkey
  rw [c2] at HPH
  clear c2
  generalize M.keptV d.F = kv at *
  generalize M.fld d.F 1 = f1 at *
  generalize M.isManifest d.key s = mb at *
  go_enter Tryz.func124, Tryz.ntmps124
  (go_wp2_with fail); (refine (unhide HPH).mono ?_); (rintro e w' ⟨rfl, rfl⟩)
  (go_wp2_with fail); (refine (unhide HK1).mono ?_); (rintro e w' ⟨rfl, rfl⟩)
  (go_wp2_with fail); (refine (unhide HVE).mono ?_); (rintro e w' ⟨rfl, rfl⟩)
  go_wp2_with fail
  refine (unhide HMA _).mono ?_
  rintro e w1 ⟨rfl, hb1⟩
  have HP1 := hide ((unhide HPL).kept hb1)
  have HR1 := hide ((unhide HRF).kept hb1)
  have HB1 := hide (hb1.mono (Nat.le_of_lt hql))
  clear hb1 hxk HPH HK1 HVE HMA
  go_wp2_with fail
  refine (unhide HFA _ 11 _ rfl (unhide HP1)).mono ?_
  rintro e w9 ⟨rfl, hp9, hb9⟩
  have HP9 := hide hp9
  have HB9 := hide ((unhide HB1).trans hb9)
  clear hp9 hb9
  go_wp2
  refine bodyPost_ret (v := .tuple #[]) (by simp [results, Tryz.results124, go_sem]) rfl ⟨rfl, ?_, unhide HB9⟩
  rw [HE1.out]
  exact unhide HP9
set_option maxRecDepth 10000 in
set_option maxHeartbeats 4000000 in
theorem offers_none (hI : M.Inv' d) (hkey : d.key.size ≤ 16) (s : ByteArray) (hs : s.size ≤ maxLen) (hR : RefAt X g d) (h : PlanIs X q (M.idle d)) (c2 : ¬ M.fld d.F 2 = 2) (cm : M.isManifest d.key s = false) :
    Calls Tryz.prog 124 #[.pointer (some ⟨g, 0, none⟩), .pointer (some ⟨q, 0, none⟩), .string s] X fun e w' => Comes X q (M.offers d s) e w' := by
  have hF := hI.2.1.bytes
  have hk1 := hI.2.1.kept
  have HPH : Hid (Calls Tryz.prog 93 #[.pointer (some ⟨g, 0, none⟩), .int .i64 2] X fun e w' => e = .returned (.int .i64 (M.fld d.F 2)) ∧ X = w') := refField_any hR hF 2 (by omega)
  have HK1 : Hid (Calls Tryz.prog 93 #[.pointer (some ⟨g, 0, none⟩), .int .i64 1] X fun e w' => e = .returned (.int .i64 (M.fld d.F 1)) ∧ X = w') := refField_any hR hF 1 (by omega)
  have HVE : Hid (Calls Tryz.prog 91 #[.pointer (some ⟨g, 0, none⟩), .int .i64 (M.fld d.F 1)] X fun e w' => e = .returned (.int .i64 (M.keptV d.F)) ∧ X = w') := refVersion_any hR hF _ hk1
  have HMA := hide (fun Y : World => refManifest_any d.key s Y hkey hs)
  have hxk := hR.keyC
  have hgl := hR.lt
  have HRF := hide hR
  have HPL := hide h
  have HFA : Hid (∀ (Y : World) (e : Nat) (c : Int), c = e → PlanIs Y q (M.idle d) → Calls Tryz.prog 119 #[.pointer (some ⟨q, 0, none⟩), .int .i64 c] Y fun y w' => y = .returned (.tuple #[]) ∧ PlanIs w' q (M.fails d e) ∧ Below q Y w') := by
    rintro Y e c rfl hY
    exact refFails_any hY e
  have hql := PlanAt.ref h
  have HE1 : Hid (M.offers d s = M.fails d 13) := by show _ = _; unfold M.offers; rw [if_neg c2, if_pos cm]
  clear hR h hI hF hs hkey
  rw [cm] at HMA
  clear cm
  generalize M.keptV d.F = kv at *
  generalize M.fld d.F 1 = f1 at *
  generalize M.fld d.F 2 = f2 at *
  have c2' : ¬ (f2 : Int) = 2 := by omega
  go_enter Tryz.func124, Tryz.ntmps124
  (go_wp2_with fail); (refine (unhide HPH).mono ?_); (rintro e w' ⟨rfl, rfl⟩)
  (go_wp2_with fail); (refine (unhide HK1).mono ?_); (rintro e w' ⟨rfl, rfl⟩)
  (go_wp2_with fail); (refine (unhide HVE).mono ?_); (rintro e w' ⟨rfl, rfl⟩)
  go_wp2_with fail
  refine (unhide HMA _).mono ?_
  rintro e w1 ⟨rfl, hb1⟩
  have HP1 := hide ((unhide HPL).kept hb1)
  have HR1 := hide ((unhide HRF).kept hb1)
  have HB1 := hide (hb1.mono (Nat.le_of_lt hql))
  clear hb1 hxk HPH HK1 HVE HMA
  go_wp2_with fail
  refine (unhide HFA _ 13 _ rfl (unhide HP1)).mono ?_
  rintro e w9 ⟨rfl, hp9, hb9⟩
  have HP9 := hide hp9
  have HB9 := hide ((unhide HB1).trans hb9)
  clear hp9 hb9
  go_wp2
  refine bodyPost_ret (v := .tuple #[]) (by simp [results, Tryz.results124, go_sem]) rfl ⟨rfl, ?_, unhide HB9⟩
  rw [HE1.out]
  exact unhide HP9
set_option maxRecDepth 10000 in
set_option maxHeartbeats 4000000 in
theorem offers_old (hI : M.Inv' d) (hkey : d.key.size ≤ 16) (s : ByteArray) (hs : s.size ≤ maxLen) (hR : RefAt X g d) (h : PlanIs X q (M.idle d)) (c2 : ¬ M.fld d.F 2 = 2) (cm : M.isManifest d.key s = true) (cv : M.bz s 0 * 256 + M.bz s 1 ≤ M.keptV d.F ∨ M.bz s 2 * 256 + M.bz s 3 ≠ M.keptV d.F) :
    Calls Tryz.prog 124 #[.pointer (some ⟨g, 0, none⟩), .pointer (some ⟨q, 0, none⟩), .string s] X fun e w' => Comes X q (M.offers d s) e w' := by
  have hF := hI.2.1.bytes
  have hk1 := hI.2.1.kept
  have HPH : Hid (Calls Tryz.prog 93 #[.pointer (some ⟨g, 0, none⟩), .int .i64 2] X fun e w' => e = .returned (.int .i64 (M.fld d.F 2)) ∧ X = w') := refField_any hR hF 2 (by omega)
  have HK1 : Hid (Calls Tryz.prog 93 #[.pointer (some ⟨g, 0, none⟩), .int .i64 1] X fun e w' => e = .returned (.int .i64 (M.fld d.F 1)) ∧ X = w') := refField_any hR hF 1 (by omega)
  have HVE : Hid (Calls Tryz.prog 91 #[.pointer (some ⟨g, 0, none⟩), .int .i64 (M.fld d.F 1)] X fun e w' => e = .returned (.int .i64 (M.keptV d.F)) ∧ X = w') := refVersion_any hR hF _ hk1
  have HMA := hide (fun Y : World => refManifest_any d.key s Y hkey hs)
  have hxk := hR.keyC
  have hgl := hR.lt
  have HRF := hide hR
  have HPL := hide h
  have HFA : Hid (∀ (Y : World) (e : Nat) (c : Int), c = e → PlanIs Y q (M.idle d) → Calls Tryz.prog 119 #[.pointer (some ⟨q, 0, none⟩), .int .i64 c] Y fun y w' => y = .returned (.tuple #[]) ∧ PlanIs w' q (M.fails d e) ∧ Below q Y w') := by
    rintro Y e c rfl hY
    exact refFails_any hY e
  have hql := PlanAt.ref h
  have hms := M.man_seal cm
  have hsz : 11 ≤ s.size := by
    obtain ⟨a, h1, h2, _⟩ := hms
    have := M.sealOf_le h1
    omega
  have hs48 : s.size ≤ 48 := by have := M.man_size cm; omega
  clear hms
  have HW0 : Hid (∀ w : World, Calls Tryz.prog 147 #[.string s, .int .i64 0] w fun e w' => e = .returned (.int .i64 ((M.bz s 0 * 256 + M.bz s 1 : Nat) : Int)) ∧ w = w') := by
    intro w
    have := refWord_any s 0 w hs (by omega) (by omega)
    refine this.mono fun e w' hh => ⟨hh.1.trans (ret_int ?_), hh.2⟩
    show (M.bz s 0 : Int) * 256 + (M.bz s 1 : Int) = _
    omega
  have HW2 : Hid (∀ w : World, Calls Tryz.prog 147 #[.string s, .int .i64 2] w fun e w' => e = .returned (.int .i64 ((M.bz s 2 * 256 + M.bz s 3 : Nat) : Int)) ∧ w = w') := by
    intro w
    have := refWord_any s 2 w hs (by omega) (by omega)
    refine this.mono fun e w' hh => ⟨hh.1.trans (ret_int ?_), hh.2⟩
    show (M.bz s 2 : Int) * 256 + (M.bz s 3 : Int) = _
    omega
  rw [cm] at HMA
  have HE1 : Hid (M.offers d s = M.fails d 6) := by show _ = _; unfold M.offers; rw [if_neg c2, if_neg (by rw [cm]; simp), if_pos cv]
  clear hR h hI hF hs hkey cm
  generalize M.bz s 0 * 256 + M.bz s 1 = v0 at *
  generalize M.bz s 2 * 256 + M.bz s 3 = v2 at *
  generalize M.keptV d.F = kv at *
  generalize M.fld d.F 1 = f1 at *
  generalize M.fld d.F 2 = f2 at *
  have c2' : ¬ (f2 : Int) = 2 := by omega
  by_cases cv0 : v0 ≤ kv
  · have cv0' : (v0 : Int) ≤ (kv : Int) := by omega
    clear cv
    go_enter Tryz.func124, Tryz.ntmps124
    (go_wp2_with fail); (refine (unhide HPH).mono ?_); (rintro e w' ⟨rfl, rfl⟩)
    (go_wp2_with fail); (refine (unhide HK1).mono ?_); (rintro e w' ⟨rfl, rfl⟩)
    (go_wp2_with fail); (refine (unhide HVE).mono ?_); (rintro e w' ⟨rfl, rfl⟩)
    go_wp2_with fail
    refine (unhide HMA _).mono ?_
    rintro e w1 ⟨rfl, hb1⟩
    have HP1 := hide ((unhide HPL).kept hb1)
    have HR1 := hide ((unhide HRF).kept hb1)
    have HB1 := hide (hb1.mono (Nat.le_of_lt hql))
    clear hb1 hxk HPH HK1 HVE HMA
    (go_wp2_with fail); (refine (unhide HW0 _).mono ?_); (rintro e w' ⟨rfl, rfl⟩)
    go_wp2_with fail
    refine (unhide HFA _ 6 _ rfl (unhide HP1)).mono ?_
    rintro e w9 ⟨rfl, hp9, hb9⟩
    have HP9 := hide hp9
    have HB9 := hide ((unhide HB1).trans hb9)
    clear hp9 hb9
    go_wp2
    refine bodyPost_ret (v := .tuple #[]) (by simp [results, Tryz.results124, go_sem]) rfl ⟨rfl, ?_, unhide HB9⟩
    rw [HE1.out]
    exact unhide HP9
  · have cv0' : ¬ (v0 : Int) ≤ (kv : Int) := by omega
    have cv2' : ¬ (v2 : Int) = (kv : Int) := by omega
    clear cv
    go_enter Tryz.func124, Tryz.ntmps124
    (go_wp2_with fail); (refine (unhide HPH).mono ?_); (rintro e w' ⟨rfl, rfl⟩)
    (go_wp2_with fail); (refine (unhide HK1).mono ?_); (rintro e w' ⟨rfl, rfl⟩)
    (go_wp2_with fail); (refine (unhide HVE).mono ?_); (rintro e w' ⟨rfl, rfl⟩)
    go_wp2_with fail
    refine (unhide HMA _).mono ?_
    rintro e w1 ⟨rfl, hb1⟩
    have HP1 := hide ((unhide HPL).kept hb1)
    have HR1 := hide ((unhide HRF).kept hb1)
    have HB1 := hide (hb1.mono (Nat.le_of_lt hql))
    clear hb1 hxk HPH HK1 HVE HMA
    (go_wp2_with fail); (refine (unhide HW0 _).mono ?_); (rintro e w' ⟨rfl, rfl⟩)
    (go_wp2_with fail); (refine (unhide HW2 _).mono ?_); (rintro e w' ⟨rfl, rfl⟩)
    go_wp2_with fail
    refine (unhide HFA _ 6 _ rfl (unhide HP1)).mono ?_
    rintro e w9 ⟨rfl, hp9, hb9⟩
    have HP9 := hide hp9
    have HB9 := hide ((unhide HB1).trans hb9)
    clear hp9 hb9
    go_wp2
    refine bodyPost_ret (v := .tuple #[]) (by simp [results, Tryz.results124, go_sem]) rfl ⟨rfl, ?_, unhide HB9⟩
    rw [HE1.out]
    exact unhide HP9
set_option maxRecDepth 10000 in
set_option maxHeartbeats 4000000 in
theorem offers_first (hI : M.Inv' d) (hkey : d.key.size ≤ 16) (s : ByteArray) (hs : s.size ≤ maxLen) (hR : RefAt X g d) (hgq : g < q) (h : PlanIs X q (M.idle d)) (c1 : M.fld d.F 2 = 0) (cm : M.isManifest d.key s = true) (cv : ¬ (M.bz s 0 * 256 + M.bz s 1 ≤ M.keptV d.F ∨ M.bz s 2 * 256 + M.bz s 3 ≠ M.keptV d.F)) :
    Calls Tryz.prog 124 #[.pointer (some ⟨g, 0, none⟩), .pointer (some ⟨q, 0, none⟩), .string s] X fun e w' => Comes X q (M.offers d s) e w' := by
  have hF := hI.2.1.bytes
  have hk1 := hI.2.1.kept
  have HPH : Hid (Calls Tryz.prog 93 #[.pointer (some ⟨g, 0, none⟩), .int .i64 2] X fun e w' => e = .returned (.int .i64 (M.fld d.F 2)) ∧ X = w') := refField_any hR hF 2 (by omega)
  have HK1 : Hid (Calls Tryz.prog 93 #[.pointer (some ⟨g, 0, none⟩), .int .i64 1] X fun e w' => e = .returned (.int .i64 (M.fld d.F 1)) ∧ X = w') := refField_any hR hF 1 (by omega)
  have HVE : Hid (Calls Tryz.prog 91 #[.pointer (some ⟨g, 0, none⟩), .int .i64 (M.fld d.F 1)] X fun e w' => e = .returned (.int .i64 (M.keptV d.F)) ∧ X = w') := refVersion_any hR hF _ hk1
  have HMA := hide (fun Y : World => refManifest_any d.key s Y hkey hs)
  have hxk := hR.keyC
  have hgl := hR.lt
  have HRF := hide hR
  have HPL := hide h
  have HFA : Hid (∀ (Y : World) (e : Nat) (c : Int), c = e → PlanIs Y q (M.idle d) → Calls Tryz.prog 119 #[.pointer (some ⟨q, 0, none⟩), .int .i64 c] Y fun y w' => y = .returned (.tuple #[]) ∧ PlanIs w' q (M.fails d e) ∧ Below q Y w') := by
    rintro Y e c rfl hY
    exact refFails_any hY e
  have hql := PlanAt.ref h
  have hms := M.man_seal cm
  have hsz : 11 ≤ s.size := by
    obtain ⟨a, h1, h2, _⟩ := hms
    have := M.sealOf_le h1
    omega
  have hs48 : s.size ≤ 48 := by have := M.man_size cm; omega
  clear hms
  have HW0 : Hid (∀ w : World, Calls Tryz.prog 147 #[.string s, .int .i64 0] w fun e w' => e = .returned (.int .i64 ((M.bz s 0 * 256 + M.bz s 1 : Nat) : Int)) ∧ w = w') := by
    intro w
    have := refWord_any s 0 w hs (by omega) (by omega)
    refine this.mono fun e w' hh => ⟨hh.1.trans (ret_int ?_), hh.2⟩
    show (M.bz s 0 : Int) * 256 + (M.bz s 1 : Int) = _
    omega
  have HW2 : Hid (∀ w : World, Calls Tryz.prog 147 #[.string s, .int .i64 2] w fun e w' => e = .returned (.int .i64 ((M.bz s 2 * 256 + M.bz s 3 : Nat) : Int)) ∧ w = w') := by
    intro w
    have := refWord_any s 2 w hs (by omega) (by omega)
    refine this.mono fun e w' hh => ⟨hh.1.trans (ret_int ?_), hh.2⟩
    show (M.bz s 2 : Int) * 256 + (M.bz s 3 : Int) = _
    omega
  rw [cm] at HMA
  have hne : ¬ g = q := by omega
  have HE1 : Hid (M.offers d s = ⟨[] ++ [M.textW 2 s 0, M.textW 3 s 16, M.textW 4 s 32] ++ [M.sameW d.F 0 1 (M.fld d.F 3)], 0, ⟨#[]⟩, -1, 0, 1, d.age, d.on⟩) := by
    show _ = _
    unfold M.offers
    rw [if_neg (by omega), if_neg (by rw [cm]; simp), if_neg cv, if_neg (by omega), if_neg (by omega)]
  have hlt := long_size hs48
  have hlp := fun (p a : Nat) (ha : a + 16 ≤ 48) => long_part (s := s) (p := p) hlt (fun j hj => long_bz hs48 hj) ha
  have HZN := hide (fun w => noughts_any (48 - s.size) w (by omega))
  have hzn : (M.mk (48 - s.size) fun _ => 0).size ≤ 48 := by rw [M.mk_size]; omega
  have hq48 : (48 : Int) - (s.size : Int) = ((48 - s.size : Nat) : Int) := by omega
  have H3 : Hid (∀ Y : World, RefAt Y g d → Calls Tryz.prog 93 #[.pointer (some ⟨g, 0, none⟩), .int .i64 3] Y fun e w' => e = .returned (.int .i64 (M.fld d.F 3)) ∧ Y = w') := fun Y hY => refField_any hY hF 3 (by omega)
  have b3 : M.fld d.F 3 < 256 := hF _
  have HS0 : Hid (∀ (Y : World), RefAt Y g d → PlanIs Y q (M.idle d) → Calls Tryz.prog 144 #[.pointer (some ⟨g, 0, none⟩), .pointer (some ⟨q, 0, none⟩), .int .i64 0, .int .i64 0, .int .i64 (M.fld d.F 3)] Y fun e w' => e = .returned (.tuple #[]) ∧ PlanAt w' q [wrG (M.sameW d.F 0 0 (M.fld d.F 3))] 0 0 ⟨#[]⟩ (-1) d.wait d.next d.age d.on ∧ Below q Y w') := fun Y hY hP => refSame_any hY hF hP (by show 0 ≤ 50; omega) 0 0 (M.fld d.F 3) (by omega) (by omega) b3
  have HWR : Hid (∀ (Y : World) (l : List GW) (p a b : Nat) (c : Int), l.length ≤ 20 → a + 16 ≤ 48 → b = a + 16 → c = p → PlanAt Y q l 0 0 ⟨#[]⟩ (-1) d.wait d.next d.age d.on → Calls Tryz.prog 151 #[.pointer (some ⟨q, 0, none⟩), .int .i64 c, .string ((s ++ (M.mk (48 - s.size) fun _ => 0)).extract a b)] Y fun e w' => e = .returned (.tuple #[]) ∧ PlanAt w' q (l ++ [wrG (M.textW p s a)]) 0 0 ⟨#[]⟩ (-1) d.wait d.next d.age d.on ∧ Below q Y w') := by
    rintro Y l p a b c hl ha rfl rfl hP
    have := refWrites_any hP p ((s ++ (M.mk (48 - s.size) fun _ => 0)).extract a (a + 16)) (hlp p a ha).1 (by omega)
    rw [(hlp p a ha).2] at this
    exact this
  have HSL : Hid (∀ (Y : World) (l : List GW), l.length ≤ 20 → RefAt Y g d → PlanAt Y q l 0 0 ⟨#[]⟩ (-1) d.wait d.next d.age d.on → Calls Tryz.prog 144 #[.pointer (some ⟨g, 0, none⟩), .pointer (some ⟨q, 0, none⟩), .int .i64 0, .int .i64 1, .int .i64 (M.fld d.F 3)] Y fun e w' => e = .returned (.tuple #[]) ∧ PlanAt w' q (l ++ [wrG (M.sameW d.F 0 1 (M.fld d.F 3))]) 0 0 ⟨#[]⟩ (-1) d.wait d.next d.age d.on ∧ Below q Y w') := fun Y l hl hY hP => refSame_any hY hF hP (by omega) 0 1 (M.fld d.F 3) (by omega) (by omega) b3
  have cv0' : ¬ ((M.bz s 0 * 256 + M.bz s 1 : Nat) : Int) ≤ (M.keptV d.F : Int) := by omega
  have cv2' : ((M.bz s 2 * 256 + M.bz s 3 : Nat) : Int) = (M.keptV d.F : Int) := by omega
  rw [cv2'] at HW2
  clear hR h hI hF hs hkey cm hlp HFA cv cv2'
  rw [c1] at HPH
  clear c1
  generalize M.bz s 0 * 256 + M.bz s 1 = v0 at *
  generalize M.keptV d.F = kv at *
  generalize M.fld d.F 1 = f1 at *
  generalize hG1 : wrG (M.sameW d.F 0 0 (M.fld d.F 3)) = G1 at *
  generalize hG2 : wrG (M.sameW d.F 0 1 (M.fld d.F 3)) = G2 at *
  have HG1 := hide hG1
  have HG2 := hide hG2
  clear hG1 hG2
  generalize M.fld d.F 3 = f3 at *
  generalize (M.mk (48 - s.size) fun _ => 0) = Z at *
  go_enter Tryz.func124, Tryz.ntmps124
  (go_wp2_with fail); (refine (unhide HPH).mono ?_); (rintro e w' ⟨rfl, rfl⟩)
  (go_wp2_with fail); (refine (unhide HK1).mono ?_); (rintro e w' ⟨rfl, rfl⟩)
  (go_wp2_with fail); (refine (unhide HVE).mono ?_); (rintro e w' ⟨rfl, rfl⟩)
  go_wp2_with fail
  refine (unhide HMA _).mono ?_
  rintro e w1 ⟨rfl, hb1⟩
  have HP1 := hide ((unhide HPL).kept hb1)
  have HR1 := hide ((unhide HRF).kept hb1)
  have HB1 := hide (hb1.mono (Nat.le_of_lt hql))
  clear hb1 hxk HPH HK1 HVE HMA
  (go_wp2_with fail); (refine (unhide HW0 _).mono ?_); (rintro e w' ⟨rfl, rfl⟩)
  (go_wp2_with fail); (refine (unhide HW2 _).mono ?_); (rintro e w' ⟨rfl, rfl⟩)
  have HPx : Hid (PlanAt w1 q [] 0 0 ⟨#[]⟩ (-1) d.wait d.next d.age d.on) := unhide HP1
  clear HP1
  (go_wp2_with fail); (refine (unhide HZN _).mono ?_); (rintro e w' ⟨rfl, rfl⟩)
  go_wp2_with fail
  have i16 : (16 : Int) ≤ ((s ++ Z).size : Int) := by omega
  have i32 : (32 : Int) ≤ ((s ++ Z).size : Int) := by omega
  have i48 : (48 : Int) ≤ ((s ++ Z).size : Int) := by omega
  generalize s ++ Z = TT at *
  go_wp2_with fail
  refine (unhide HWR _ _ 2 0 16 _ (by simp) (by omega) rfl rfl (unhide HPx)).mono ?_
  rintro e w2 ⟨rfl, hp2, hb2⟩
  have HP2 := hide hp2
  have HR2 := hide ((unhide HR1).below hb2 hgq)
  have HB2 := hide ((unhide HB1).trans hb2)
  clear hp2 hb2 HPx HR1 HB1
  go_wp2_with fail
  refine (unhide HWR _ _ 3 16 32 _ (by simp) (by omega) rfl rfl (unhide HP2)).mono ?_
  rintro e w3 ⟨rfl, hp3, hb3⟩
  have HP3 := hide hp3
  have HR3 := hide ((unhide HR2).below hb3 hgq)
  have HB3 := hide ((unhide HB2).trans hb3)
  clear hp3 hb3 HP2 HR2 HB2
  go_wp2_with fail
  refine (unhide HWR _ _ 4 32 48 _ (by simp) (by omega) rfl rfl (unhide HP3)).mono ?_
  rintro e w4 ⟨rfl, hp4, hb4⟩
  have HP4 := hide hp4
  have HR4 := hide ((unhide HR3).below hb4 hgq)
  have HB4 := hide ((unhide HB3).trans hb4)
  clear hp4 hb4 HP3 HR3 HB3
  go_wp2_with fail
  refine (unhide H3 _ (unhide HR4)).mono ?_
  rintro e _ ⟨rfl, rfl⟩
  go_wp2_with fail
  refine (unhide HSL _ _ (by simp) (unhide HR4) (unhide HP4)).mono ?_
  rintro e w5 ⟨rfl, hp5, hb5⟩
  have HP5 := hide hp5
  have HR5 := hide ((unhide HR4).below hb5 hgq)
  have HB5 := hide ((unhide HB4).trans hb5)
  clear hp5 hb5 HP4 HR4 HB4
  have HPf := hide (((unhide HP5).setWait 0).setNext 1)
  have HBf := hide (low_set (o := 7) (v := .int .i64 1) (low_set (o := 6) (v := .int .i64 0) (unhide HB5)))
  obtain ⟨⟨ao, ca, to, ct, hxf⟩, hff⟩ := (unhide HP5).facts
  have hqf := (unhide HP5).ref
  go_wp2
  refine bodyPost_end (v := .tuple #[]) (by simp [results, Tryz.results124, go_sem]) rfl ⟨rfl, ?_, unhide HBf⟩
  rw [HE1.out]
  have hfin := unhide HPf
  rw [← HG2.out] at hfin
  skip
  exact hfin
set_option maxRecDepth 10000 in
set_option maxHeartbeats 4000000 in
theorem offers_more (hI : M.Inv' d) (hkey : d.key.size ≤ 16) (s : ByteArray) (hs : s.size ≤ maxLen) (hR : RefAt X g d) (hgq : g < q) (h : PlanIs X q (M.idle d)) (c1 : M.fld d.F 2 = 1) (cm : M.isManifest d.key s = true) (cv : ¬ (M.bz s 0 * 256 + M.bz s 1 ≤ M.keptV d.F ∨ M.bz s 2 * 256 + M.bz s 3 ≠ M.keptV d.F)) :
    Calls Tryz.prog 124 #[.pointer (some ⟨g, 0, none⟩), .pointer (some ⟨q, 0, none⟩), .string s] X fun e w' => Comes X q (M.offers d s) e w' := by
  have hF := hI.2.1.bytes
  have hk1 := hI.2.1.kept
  have HPH : Hid (Calls Tryz.prog 93 #[.pointer (some ⟨g, 0, none⟩), .int .i64 2] X fun e w' => e = .returned (.int .i64 (M.fld d.F 2)) ∧ X = w') := refField_any hR hF 2 (by omega)
  have HK1 : Hid (Calls Tryz.prog 93 #[.pointer (some ⟨g, 0, none⟩), .int .i64 1] X fun e w' => e = .returned (.int .i64 (M.fld d.F 1)) ∧ X = w') := refField_any hR hF 1 (by omega)
  have HVE : Hid (Calls Tryz.prog 91 #[.pointer (some ⟨g, 0, none⟩), .int .i64 (M.fld d.F 1)] X fun e w' => e = .returned (.int .i64 (M.keptV d.F)) ∧ X = w') := refVersion_any hR hF _ hk1
  have HMA := hide (fun Y : World => refManifest_any d.key s Y hkey hs)
  have hxk := hR.keyC
  have hgl := hR.lt
  have HRF := hide hR
  have HPL := hide h
  have HFA : Hid (∀ (Y : World) (e : Nat) (c : Int), c = e → PlanIs Y q (M.idle d) → Calls Tryz.prog 119 #[.pointer (some ⟨q, 0, none⟩), .int .i64 c] Y fun y w' => y = .returned (.tuple #[]) ∧ PlanIs w' q (M.fails d e) ∧ Below q Y w') := by
    rintro Y e c rfl hY
    exact refFails_any hY e
  have hql := PlanAt.ref h
  have hms := M.man_seal cm
  have hsz : 11 ≤ s.size := by
    obtain ⟨a, h1, h2, _⟩ := hms
    have := M.sealOf_le h1
    omega
  have hs48 : s.size ≤ 48 := by have := M.man_size cm; omega
  clear hms
  have HW0 : Hid (∀ w : World, Calls Tryz.prog 147 #[.string s, .int .i64 0] w fun e w' => e = .returned (.int .i64 ((M.bz s 0 * 256 + M.bz s 1 : Nat) : Int)) ∧ w = w') := by
    intro w
    have := refWord_any s 0 w hs (by omega) (by omega)
    refine this.mono fun e w' hh => ⟨hh.1.trans (ret_int ?_), hh.2⟩
    show (M.bz s 0 : Int) * 256 + (M.bz s 1 : Int) = _
    omega
  have HW2 : Hid (∀ w : World, Calls Tryz.prog 147 #[.string s, .int .i64 2] w fun e w' => e = .returned (.int .i64 ((M.bz s 2 * 256 + M.bz s 3 : Nat) : Int)) ∧ w = w') := by
    intro w
    have := refWord_any s 2 w hs (by omega) (by omega)
    refine this.mono fun e w' hh => ⟨hh.1.trans (ret_int ?_), hh.2⟩
    show (M.bz s 2 : Int) * 256 + (M.bz s 3 : Int) = _
    omega
  rw [cm] at HMA
  have hne : ¬ g = q := by omega
  have HE1 : Hid (M.offers d s = ⟨[M.sameW d.F 0 0 (M.fld d.F 3)] ++ [M.textW 2 s 0, M.textW 3 s 16, M.textW 4 s 32] ++ [M.sameW d.F 1 1 (M.fld d.F 3)], 0, ⟨#[]⟩, -1, 0, 1, d.age, d.on⟩) := by
    show _ = _
    unfold M.offers
    rw [if_neg (by omega), if_neg (by rw [cm]; simp), if_neg cv, if_pos c1, if_pos c1]
  have hlt := long_size hs48
  have hlp := fun (p a : Nat) (ha : a + 16 ≤ 48) => long_part (s := s) (p := p) hlt (fun j hj => long_bz hs48 hj) ha
  have HZN := hide (fun w => noughts_any (48 - s.size) w (by omega))
  have hzn : (M.mk (48 - s.size) fun _ => 0).size ≤ 48 := by rw [M.mk_size]; omega
  have hq48 : (48 : Int) - (s.size : Int) = ((48 - s.size : Nat) : Int) := by omega
  have H3 : Hid (∀ Y : World, RefAt Y g d → Calls Tryz.prog 93 #[.pointer (some ⟨g, 0, none⟩), .int .i64 3] Y fun e w' => e = .returned (.int .i64 (M.fld d.F 3)) ∧ Y = w') := fun Y hY => refField_any hY hF 3 (by omega)
  have b3 : M.fld d.F 3 < 256 := hF _
  have HS0 : Hid (∀ (Y : World), RefAt Y g d → PlanIs Y q (M.idle d) → Calls Tryz.prog 144 #[.pointer (some ⟨g, 0, none⟩), .pointer (some ⟨q, 0, none⟩), .int .i64 0, .int .i64 0, .int .i64 (M.fld d.F 3)] Y fun e w' => e = .returned (.tuple #[]) ∧ PlanAt w' q [wrG (M.sameW d.F 0 0 (M.fld d.F 3))] 0 0 ⟨#[]⟩ (-1) d.wait d.next d.age d.on ∧ Below q Y w') := fun Y hY hP => refSame_any hY hF hP (by show 0 ≤ 50; omega) 0 0 (M.fld d.F 3) (by omega) (by omega) b3
  have HWR : Hid (∀ (Y : World) (l : List GW) (p a b : Nat) (c : Int), l.length ≤ 20 → a + 16 ≤ 48 → b = a + 16 → c = p → PlanAt Y q l 0 0 ⟨#[]⟩ (-1) d.wait d.next d.age d.on → Calls Tryz.prog 151 #[.pointer (some ⟨q, 0, none⟩), .int .i64 c, .string ((s ++ (M.mk (48 - s.size) fun _ => 0)).extract a b)] Y fun e w' => e = .returned (.tuple #[]) ∧ PlanAt w' q (l ++ [wrG (M.textW p s a)]) 0 0 ⟨#[]⟩ (-1) d.wait d.next d.age d.on ∧ Below q Y w') := by
    rintro Y l p a b c hl ha rfl rfl hP
    have := refWrites_any hP p ((s ++ (M.mk (48 - s.size) fun _ => 0)).extract a (a + 16)) (hlp p a ha).1 (by omega)
    rw [(hlp p a ha).2] at this
    exact this
  have HSL : Hid (∀ (Y : World) (l : List GW), l.length ≤ 20 → RefAt Y g d → PlanAt Y q l 0 0 ⟨#[]⟩ (-1) d.wait d.next d.age d.on → Calls Tryz.prog 144 #[.pointer (some ⟨g, 0, none⟩), .pointer (some ⟨q, 0, none⟩), .int .i64 1, .int .i64 1, .int .i64 (M.fld d.F 3)] Y fun e w' => e = .returned (.tuple #[]) ∧ PlanAt w' q (l ++ [wrG (M.sameW d.F 1 1 (M.fld d.F 3))]) 0 0 ⟨#[]⟩ (-1) d.wait d.next d.age d.on ∧ Below q Y w') := fun Y l hl hY hP => refSame_any hY hF hP (by omega) 1 1 (M.fld d.F 3) (by omega) (by omega) b3
  have cv0' : ¬ ((M.bz s 0 * 256 + M.bz s 1 : Nat) : Int) ≤ (M.keptV d.F : Int) := by omega
  have cv2' : ((M.bz s 2 * 256 + M.bz s 3 : Nat) : Int) = (M.keptV d.F : Int) := by omega
  rw [cv2'] at HW2
  clear hR h hI hF hs hkey cm hlp HFA cv cv2'
  rw [c1] at HPH
  clear c1
  generalize M.bz s 0 * 256 + M.bz s 1 = v0 at *
  generalize M.keptV d.F = kv at *
  generalize M.fld d.F 1 = f1 at *
  generalize hG1 : wrG (M.sameW d.F 0 0 (M.fld d.F 3)) = G1 at *
  generalize hG2 : wrG (M.sameW d.F 1 1 (M.fld d.F 3)) = G2 at *
  have HG1 := hide hG1
  have HG2 := hide hG2
  clear hG1 hG2
  generalize M.fld d.F 3 = f3 at *
  generalize (M.mk (48 - s.size) fun _ => 0) = Z at *
  go_enter Tryz.func124, Tryz.ntmps124
  (go_wp2_with fail); (refine (unhide HPH).mono ?_); (rintro e w' ⟨rfl, rfl⟩)
  (go_wp2_with fail); (refine (unhide HK1).mono ?_); (rintro e w' ⟨rfl, rfl⟩)
  (go_wp2_with fail); (refine (unhide HVE).mono ?_); (rintro e w' ⟨rfl, rfl⟩)
  go_wp2_with fail
  refine (unhide HMA _).mono ?_
  rintro e w1 ⟨rfl, hb1⟩
  have HP1 := hide ((unhide HPL).kept hb1)
  have HR1 := hide ((unhide HRF).kept hb1)
  have HB1 := hide (hb1.mono (Nat.le_of_lt hql))
  clear hb1 hxk HPH HK1 HVE HMA
  (go_wp2_with fail); (refine (unhide HW0 _).mono ?_); (rintro e w' ⟨rfl, rfl⟩)
  (go_wp2_with fail); (refine (unhide HW2 _).mono ?_); (rintro e w' ⟨rfl, rfl⟩)
  go_wp2_with fail
  refine (unhide H3 _ (unhide HR1)).mono ?_
  rintro e _ ⟨rfl, rfl⟩
  go_wp2_with fail
  refine (unhide HS0 _ (unhide HR1) (unhide HP1)).mono ?_
  rintro e w2 ⟨rfl, hp2, hb2⟩
  have HP2 := hide hp2
  have HR2 := hide ((unhide HR1).below hb2 hgq)
  have HB2 := hide ((unhide HB1).trans hb2)
  clear hp2 hb2 HP1 HR1 HB1
  (go_wp2_with fail); (refine (unhide HZN _).mono ?_); (rintro e w' ⟨rfl, rfl⟩)
  go_wp2_with fail
  have i16 : (16 : Int) ≤ ((s ++ Z).size : Int) := by omega
  have i32 : (32 : Int) ≤ ((s ++ Z).size : Int) := by omega
  have i48 : (48 : Int) ≤ ((s ++ Z).size : Int) := by omega
  generalize s ++ Z = TT at *
  go_wp2_with fail
  refine (unhide HWR _ _ 2 0 16 _ (by simp) (by omega) rfl rfl (unhide HP2)).mono ?_
  rintro e w3 ⟨rfl, hp3, hb3⟩
  have HP3 := hide hp3
  have HR3 := hide ((unhide HR2).below hb3 hgq)
  have HB3 := hide ((unhide HB2).trans hb3)
  clear hp3 hb3 HP2 HR2 HB2
  go_wp2_with fail
  refine (unhide HWR _ _ 3 16 32 _ (by simp) (by omega) rfl rfl (unhide HP3)).mono ?_
  rintro e w4 ⟨rfl, hp4, hb4⟩
  have HP4 := hide hp4
  have HR4 := hide ((unhide HR3).below hb4 hgq)
  have HB4 := hide ((unhide HB3).trans hb4)
  clear hp4 hb4 HP3 HR3 HB3
  go_wp2_with fail
  refine (unhide HWR _ _ 4 32 48 _ (by simp) (by omega) rfl rfl (unhide HP4)).mono ?_
  rintro e w5 ⟨rfl, hp5, hb5⟩
  have HP5 := hide hp5
  have HR5 := hide ((unhide HR4).below hb5 hgq)
  have HB5 := hide ((unhide HB4).trans hb5)
  clear hp5 hb5 HP4 HR4 HB4
  go_wp2_with fail
  refine (unhide H3 _ (unhide HR5)).mono ?_
  rintro e _ ⟨rfl, rfl⟩
  go_wp2_with fail
  refine (unhide HSL _ _ (by simp) (unhide HR5) (unhide HP5)).mono ?_
  rintro e w6 ⟨rfl, hp6, hb6⟩
  have HP6 := hide hp6
  have HR6 := hide ((unhide HR5).below hb6 hgq)
  have HB6 := hide ((unhide HB5).trans hb6)
  clear hp6 hb6 HP5 HR5 HB5
  have HPf := hide (((unhide HP6).setWait 0).setNext 1)
  have HBf := hide (low_set (o := 7) (v := .int .i64 1) (low_set (o := 6) (v := .int .i64 0) (unhide HB6)))
  obtain ⟨⟨ao, ca, to, ct, hxf⟩, hff⟩ := (unhide HP6).facts
  have hqf := (unhide HP6).ref
  go_wp2
  refine bodyPost_end (v := .tuple #[]) (by simp [results, Tryz.results124, go_sem]) rfl ⟨rfl, ?_, unhide HBf⟩
  rw [HE1.out]
  have hfin := unhide HPf
  rw [← HG2.out] at hfin
  rw [← HG1.out] at hfin
  exact hfin
/-- an offer comes to what it should -/
theorem refOffers_any (hI : M.Inv' d) (hkey : d.key.size ≤ 16) (s : ByteArray) (hs : s.size ≤ maxLen) (hR : RefAt X g d) (hgq : g < q) (h : PlanIs X q (M.idle d)) :
    Calls Tryz.prog 124 #[.pointer (some ⟨g, 0, none⟩), .pointer (some ⟨q, 0, none⟩), .string s] X fun e w' => Comes X q (M.offers d s) e w' := by
  by_cases c2 : M.fld d.F 2 = 2
  · exact offers_busy hI hkey s hs hR h c2
  cases cm : M.isManifest d.key s with
  | false => exact offers_none hI hkey s hs hR h c2 cm
  | true =>
    by_cases cv : M.bz s 0 * 256 + M.bz s 1 ≤ M.keptV d.F ∨ M.bz s 2 * 256 + M.bz s 3 ≠ M.keptV d.F
    · exact offers_old hI hkey s hs hR h c2 cm cv
    · have hp := hI.2.1.phase
      by_cases c1 : M.fld d.F 2 = 1
      · exact offers_more hI hkey s hs hR hgq h c1 cm cv
      · exact offers_first hI hkey s hs hR hgq h (by omega) cm cv
end
end Go.Proofs.YtjfmiomopfjecabGreat

/- The document's device: a chunk is given. -/
namespace Go.Proofs.YtjfmiomopfjecabGreat
open Go.RowKit Go.Lib

theorem bit_room {x i : Nat} (hx : x < 256) (hi : i < 6) (h : ¬ x / 2 ^ i % 2 = 1) : x + 2 ^ i < 256 := by
  have hc : i = 0 ∨ i = 1 ∨ i = 2 ∨ i = 3 ∨ i = 4 ∨ i = 5 := by omega
  rcases hc with rfl | rfl | rfl | rfl | rfl | rfl <;> simp at h ⊢ <;> omega
theorem pow_six {i : Nat} (hi : i < 6) : 1 ≤ 2 ^ i ∧ 2 ^ i ≤ 32 := by
  have hc : i = 0 ∨ i = 1 ∨ i = 2 ∨ i = 3 ∨ i = 4 ∨ i = 5 := by omega
  rcases hc with rfl | rfl | rfl | rfl | rfl | rfl <;> simp
section
variable {X : World} {g q : Nat} {d : M.Dev}
set_option maxRecDepth 10000 in
set_option maxHeartbeats 2000000 in
theorem takes_idle (hI : M.Inv' d) (i : Int) (s : ByteArray) (hR : RefAt X g d) (h : PlanIs X q (M.idle d)) (c1 : ¬ M.fld d.F 2 = 1) :
    Calls Tryz.prog 125 #[.pointer (some ⟨g, 0, none⟩), .pointer (some ⟨q, 0, none⟩), .int .i64 i, .string s] X fun e w' => Comes X q (M.takes d i s) e w' := by
  have hF := hI.2.1.bytes
  have H2 : Hid (Calls Tryz.prog 93 #[.pointer (some ⟨g, 0, none⟩), .int .i64 2] X fun e w' => e = .returned (.int .i64 (M.fld d.F 2)) ∧ X = w') := refField_any hR hF 2 (by omega)
  have HFA : Hid (∀ (Y : World) (e : Nat) (c : Int), c = e → PlanIs Y q (M.idle d) → Calls Tryz.prog 119 #[.pointer (some ⟨q, 0, none⟩), .int .i64 c] Y fun y w' => y = .returned (.tuple #[]) ∧ PlanIs w' q (M.fails d e) ∧ Below q Y w') := by
    rintro Y e c rfl hY
    exact refFails_any hY e
  have HPL := hide h
  have hql := PlanAt.ref h
  have HE1 : Hid (M.takes d i s = M.fails d 12) := by show _ = _; unfold M.takes; rw [if_pos c1]
  clear hI hF hR h
  generalize M.fld d.F 2 = f2 at *
  have c1' : ¬ (f2 : Int) = 1 := by omega
  go_enter Tryz.func125, Tryz.ntmps125
  (go_wp2_with fail); (refine (unhide H2).mono ?_); (rintro e w' ⟨rfl, rfl⟩)
  have HPY := HPL
  have HBY : Hid (Below q X X) := Below.refl q X
  go_wp2_with fail
  refine (unhide HFA _ 12 _ rfl (unhide HPY)).mono ?_
  rintro e w9 ⟨rfl, hp9, hb9⟩
  have HP9 := hide hp9
  have HB9 := hide ((unhide HBY).trans hb9)
  clear hp9 hb9
  go_wp2
  refine bodyPost_ret (v := .tuple #[]) (by simp [results, Tryz.results125, go_sem]) rfl ⟨rfl, ?_, unhide HB9⟩
  rw [HE1.out]
  exact unhide HP9
set_option maxRecDepth 10000 in
set_option maxHeartbeats 2000000 in
theorem takes_low (hI : M.Inv' d) (i : Int) (s : ByteArray) (hR : RefAt X g d) (h : PlanIs X q (M.idle d)) (c1 : M.fld d.F 2 = 1) (ci : i < 0) :
    Calls Tryz.prog 125 #[.pointer (some ⟨g, 0, none⟩), .pointer (some ⟨q, 0, none⟩), .int .i64 i, .string s] X fun e w' => Comes X q (M.takes d i s) e w' := by
  have hF := hI.2.1.bytes
  have H2 : Hid (Calls Tryz.prog 93 #[.pointer (some ⟨g, 0, none⟩), .int .i64 2] X fun e w' => e = .returned (.int .i64 (M.fld d.F 2)) ∧ X = w') := refField_any hR hF 2 (by omega)
  have HFA : Hid (∀ (Y : World) (e : Nat) (c : Int), c = e → PlanIs Y q (M.idle d) → Calls Tryz.prog 119 #[.pointer (some ⟨q, 0, none⟩), .int .i64 c] Y fun y w' => y = .returned (.tuple #[]) ∧ PlanIs w' q (M.fails d e) ∧ Below q Y w') := by
    rintro Y e c rfl hY
    exact refFails_any hY e
  have HPL := hide h
  have hql := PlanAt.ref h
  obtain ⟨a, ha⟩ := hI.2.1.man c1
  have hle := M.sealOf_le ha
  have HM := hide (refMan_any hR hF ha)
  have hz : (manT d.F a).size = a + 2 := M.mk_size _ _
  have hb4 : M.bz (manT d.F a) 4 = M.mf d.F 4 := M.bz_mk (fun j _ => mf_bytes hF j) (by omega)
  have hzm : (manT d.F a).size ≤ maxLen := by rw [hz]; unfold maxLen; omega
  have HC := hide (fun w => refChunks_any (manT d.F a) w (by rw [hz]; omega) hzm)
  rw [hb4] at HC
  have hc6 : M.chunksN (M.mf d.F 4) ≤ 6 := by unfold M.chunksN; omega
  have HE1 : Hid (M.takes d i s = M.fails d 14) := by show _ = _; unfold M.takes; rw [if_neg (by omega), if_pos (.inl ci)]
  clear hI hF hR h ha hz hb4 hzm HC hle
  rw [c1] at H2
  generalize manT d.F a = Tm at *
  go_enter Tryz.func125, Tryz.ntmps125
  (go_wp2_with fail); (refine (unhide H2).mono ?_); (rintro e w' ⟨rfl, rfl⟩)
  (go_wp2_with fail); (refine (unhide HM).mono ?_); (rintro e w' ⟨rfl, rfl⟩)
  have HPY := HPL
  have HBY : Hid (Below q X X) := Below.refl q X
  go_wp2_with fail
  refine (unhide HFA _ 14 _ rfl (unhide HPY)).mono ?_
  rintro e w9 ⟨rfl, hp9, hb9⟩
  have HP9 := hide hp9
  have HB9 := hide ((unhide HBY).trans hb9)
  clear hp9 hb9
  go_wp2
  refine bodyPost_ret (v := .tuple #[]) (by simp [results, Tryz.results125, go_sem]) rfl ⟨rfl, ?_, unhide HB9⟩
  rw [HE1.out]
  exact unhide HP9
set_option maxRecDepth 10000 in
set_option maxHeartbeats 2000000 in
theorem takes_high (hI : M.Inv' d) (i : Int) (s : ByteArray) (hR : RefAt X g d) (h : PlanIs X q (M.idle d)) (c1 : M.fld d.F 2 = 1) (ci : ¬ i < 0) (cc : (M.chunksN (M.mf d.F 4) : Int) ≤ i) :
    Calls Tryz.prog 125 #[.pointer (some ⟨g, 0, none⟩), .pointer (some ⟨q, 0, none⟩), .int .i64 i, .string s] X fun e w' => Comes X q (M.takes d i s) e w' := by
  have hF := hI.2.1.bytes
  have H2 : Hid (Calls Tryz.prog 93 #[.pointer (some ⟨g, 0, none⟩), .int .i64 2] X fun e w' => e = .returned (.int .i64 (M.fld d.F 2)) ∧ X = w') := refField_any hR hF 2 (by omega)
  have HFA : Hid (∀ (Y : World) (e : Nat) (c : Int), c = e → PlanIs Y q (M.idle d) → Calls Tryz.prog 119 #[.pointer (some ⟨q, 0, none⟩), .int .i64 c] Y fun y w' => y = .returned (.tuple #[]) ∧ PlanIs w' q (M.fails d e) ∧ Below q Y w') := by
    rintro Y e c rfl hY
    exact refFails_any hY e
  have HPL := hide h
  have hql := PlanAt.ref h
  obtain ⟨a, ha⟩ := hI.2.1.man c1
  have hle := M.sealOf_le ha
  have HM := hide (refMan_any hR hF ha)
  have hz : (manT d.F a).size = a + 2 := M.mk_size _ _
  have hb4 : M.bz (manT d.F a) 4 = M.mf d.F 4 := M.bz_mk (fun j _ => mf_bytes hF j) (by omega)
  have hzm : (manT d.F a).size ≤ maxLen := by rw [hz]; unfold maxLen; omega
  have HC := hide (fun w => refChunks_any (manT d.F a) w (by rw [hz]; omega) hzm)
  rw [hb4] at HC
  have hc6 : M.chunksN (M.mf d.F 4) ≤ 6 := by unfold M.chunksN; omega
  have HE1 : Hid (M.takes d i s = M.fails d 14) := by show _ = _; unfold M.takes; rw [if_neg (by omega), if_pos (.inr (.inl cc))]
  clear hI hF hR h ha hz hb4 hzm hle
  rw [c1] at H2
  generalize manT d.F a = Tm at *
  generalize M.chunksN (M.mf d.F 4) = c at *
  go_enter Tryz.func125, Tryz.ntmps125
  (go_wp2_with fail); (refine (unhide H2).mono ?_); (rintro e w' ⟨rfl, rfl⟩)
  (go_wp2_with fail); (refine (unhide HM).mono ?_); (rintro e w' ⟨rfl, rfl⟩)
  (go_wp2_with fail); (refine (unhide HC _).mono ?_); (rintro e w' ⟨rfl, rfl⟩)
  have HPY := HPL
  have HBY : Hid (Below q X X) := Below.refl q X
  go_wp2_with fail
  refine (unhide HFA _ 14 _ rfl (unhide HPY)).mono ?_
  rintro e w9 ⟨rfl, hp9, hb9⟩
  have HP9 := hide hp9
  have HB9 := hide ((unhide HBY).trans hb9)
  clear hp9 hb9
  go_wp2
  refine bodyPost_ret (v := .tuple #[]) (by simp [results, Tryz.results125, go_sem]) rfl ⟨rfl, ?_, unhide HB9⟩
  rw [HE1.out]
  exact unhide HP9
set_option maxRecDepth 10000 in
set_option maxHeartbeats 2000000 in
theorem takes_size (hI : M.Inv' d) (i : Int) (s : ByteArray) (hR : RefAt X g d) (h : PlanIs X q (M.idle d)) (c1 : M.fld d.F 2 = 1) (n : Nat) (hi : i = n) (hn : n < M.chunksN (M.mf d.F 4)) (cs : ¬ s.size = M.chunkLen (M.mf d.F 4) n) :
    Calls Tryz.prog 125 #[.pointer (some ⟨g, 0, none⟩), .pointer (some ⟨q, 0, none⟩), .int .i64 i, .string s] X fun e w' => Comes X q (M.takes d i s) e w' := by
  have hF := hI.2.1.bytes
  have H2 : Hid (Calls Tryz.prog 93 #[.pointer (some ⟨g, 0, none⟩), .int .i64 2] X fun e w' => e = .returned (.int .i64 (M.fld d.F 2)) ∧ X = w') := refField_any hR hF 2 (by omega)
  have HFA : Hid (∀ (Y : World) (e : Nat) (c : Int), c = e → PlanIs Y q (M.idle d) → Calls Tryz.prog 119 #[.pointer (some ⟨q, 0, none⟩), .int .i64 c] Y fun y w' => y = .returned (.tuple #[]) ∧ PlanIs w' q (M.fails d e) ∧ Below q Y w') := by
    rintro Y e c rfl hY
    exact refFails_any hY e
  have HPL := hide h
  have hql := PlanAt.ref h
  obtain ⟨a, ha⟩ := hI.2.1.man c1
  have hle := M.sealOf_le ha
  have HM := hide (refMan_any hR hF ha)
  have hz : (manT d.F a).size = a + 2 := M.mk_size _ _
  have hb4 : M.bz (manT d.F a) 4 = M.mf d.F 4 := M.bz_mk (fun j _ => mf_bytes hF j) (by omega)
  have hzm : (manT d.F a).size ≤ maxLen := by rw [hz]; unfold maxLen; omega
  have HC := hide (fun w => refChunks_any (manT d.F a) w (by rw [hz]; omega) hzm)
  rw [hb4] at HC
  have hc6 : M.chunksN (M.mf d.F 4) ≤ 6 := by unfold M.chunksN; omega
  have HZ := hide (fun w => refSize_any (manT d.F a) n w (by rw [hz]; omega) hzm (by rw [hb4]; exact hn))
  rw [hb4] at HZ
  have HE1 : Hid (M.takes d i s = M.fails d 14) := by show _ = _; unfold M.takes; rw [if_neg (by omega), if_pos (.inr (.inr (.inl (by rw [hi, Int.toNat_natCast]; exact cs))))]
  subst hi
  clear hI hF hR h ha hz hb4 hzm hle
  rw [c1] at H2
  generalize manT d.F a = Tm at *
  generalize M.chunkLen (M.mf d.F 4) n = cl at *
  generalize M.chunksN (M.mf d.F 4) = c at *
  have cs' : ¬ (s.size : Int) = (cl : Int) := by omega
  go_enter Tryz.func125, Tryz.ntmps125
  (go_wp2_with fail); (refine (unhide H2).mono ?_); (rintro e w' ⟨rfl, rfl⟩)
  (go_wp2_with fail); (refine (unhide HM).mono ?_); (rintro e w' ⟨rfl, rfl⟩)
  (go_wp2_with fail); (refine (unhide HC _).mono ?_); (rintro e w' ⟨rfl, rfl⟩)
  (go_wp2_with fail); (refine (unhide HZ _).mono ?_); (rintro e w' ⟨rfl, rfl⟩)
  have HPY := HPL
  have HBY : Hid (Below q X X) := Below.refl q X
  go_wp2_with fail
  refine (unhide HFA _ 14 _ rfl (unhide HPY)).mono ?_
  rintro e w9 ⟨rfl, hp9, hb9⟩
  have HP9 := hide hp9
  have HB9 := hide ((unhide HBY).trans hb9)
  clear hp9 hb9
  go_wp2
  refine bodyPost_ret (v := .tuple #[]) (by simp [results, Tryz.results125, go_sem]) rfl ⟨rfl, ?_, unhide HB9⟩
  rw [HE1.out]
  exact unhide HP9
set_option maxRecDepth 10000 in
set_option maxHeartbeats 2000000 in
theorem takes_sum (hI : M.Inv' d) (i : Int) (s : ByteArray) (hR : RefAt X g d) (h : PlanIs X q (M.idle d)) (c1 : M.fld d.F 2 = 1) (n : Nat) (hi : i = n) (hn : n < M.chunksN (M.mf d.F 4)) (cs : s.size = M.chunkLen (M.mf d.F 4) n) (cw : ¬ M.crc s.data.toList = M.mf d.F (8 + 2 * n) * 256 + M.mf d.F (9 + 2 * n)) :
    Calls Tryz.prog 125 #[.pointer (some ⟨g, 0, none⟩), .pointer (some ⟨q, 0, none⟩), .int .i64 i, .string s] X fun e w' => Comes X q (M.takes d i s) e w' := by
  have hF := hI.2.1.bytes
  have H2 : Hid (Calls Tryz.prog 93 #[.pointer (some ⟨g, 0, none⟩), .int .i64 2] X fun e w' => e = .returned (.int .i64 (M.fld d.F 2)) ∧ X = w') := refField_any hR hF 2 (by omega)
  have HFA : Hid (∀ (Y : World) (e : Nat) (c : Int), c = e → PlanIs Y q (M.idle d) → Calls Tryz.prog 119 #[.pointer (some ⟨q, 0, none⟩), .int .i64 c] Y fun y w' => y = .returned (.tuple #[]) ∧ PlanIs w' q (M.fails d e) ∧ Below q Y w') := by
    rintro Y e c rfl hY
    exact refFails_any hY e
  have HPL := hide h
  have hql := PlanAt.ref h
  obtain ⟨a, ha⟩ := hI.2.1.man c1
  have hle := M.sealOf_le ha
  have HM := hide (refMan_any hR hF ha)
  have hz : (manT d.F a).size = a + 2 := M.mk_size _ _
  have hb4 : M.bz (manT d.F a) 4 = M.mf d.F 4 := M.bz_mk (fun j _ => mf_bytes hF j) (by omega)
  have hzm : (manT d.F a).size ≤ maxLen := by rw [hz]; unfold maxLen; omega
  have HC := hide (fun w => refChunks_any (manT d.F a) w (by rw [hz]; omega) hzm)
  rw [hb4] at HC
  have hc6 : M.chunksN (M.mf d.F 4) ≤ 6 := by unfold M.chunksN; omega
  have HZ := hide (fun w => refSize_any (manT d.F a) n w (by rw [hz]; omega) hzm (by rw [hb4]; exact hn))
  rw [hb4] at HZ
  have hcl : M.chunkLen (M.mf d.F 4) n ≤ 16 := by unfold M.chunkLen; omega
  have HSU := hide (fun w => refSum_any s w (by omega))
  have HW : Hid (∀ w : World, Calls Tryz.prog 147 #[.string (manT d.F a), .int .i64 (8 + 2 * (n : Int))] w fun e w' => e = .returned (.int .i64 ((M.mf d.F (8 + 2 * n) * 256 + M.mf d.F (9 + 2 * n) : Nat) : Int)) ∧ w = w') := by
    intro w
    have hr := refWord_any (manT d.F a) (8 + 2 * (n : Int)) w hzm (by omega) (by rw [hz]; omega)
    refine hr.mono fun e w' hh => ⟨hh.1.trans (ret_int ?_), hh.2⟩
    rw [show (8 + 2 * (n : Int)).toNat = 8 + 2 * n from by omega, M.bz_mk (fun j _ => mf_bytes hF j) (by omega), M.bz_mk (fun j _ => mf_bytes hF j) (by omega), show 8 + 2 * n + 1 = 9 + 2 * n from by omega]
    omega
  have HE1 : Hid (M.takes d i s = M.fails d 14) := by show _ = _; unfold M.takes; rw [if_neg (by omega), if_pos (.inr (.inr (.inr (by rw [hi, Int.toNat_natCast]; exact cw))))]
  subst hi
  clear hI hF hR h ha hz hb4 hzm hle
  rw [c1] at H2
  generalize manT d.F a = Tm at *
  generalize M.chunkLen (M.mf d.F 4) n = cl at *
  generalize M.chunksN (M.mf d.F 4) = c at *
  generalize M.mf d.F (8 + 2 * n) * 256 + M.mf d.F (9 + 2 * n) = wd at *
  generalize M.crc s.data.toList = sm at *
  have cs' : (s.size : Int) = (cl : Int) := by omega
  have cw' : ¬ (sm : Int) = (wd : Int) := by omega
  have cw2 : ((sm : Int) == (wd : Int)) = false := by simp [cw']
  have cw3 : ((sm : Int) != (wd : Int)) = true := by simp [cw']
  have cw4 : ¬ (wd : Int) = (sm : Int) := by omega
  go_enter Tryz.func125, Tryz.ntmps125
  (go_wp2_with fail); (refine (unhide H2).mono ?_); (rintro e w' ⟨rfl, rfl⟩)
  (go_wp2_with fail); (refine (unhide HM).mono ?_); (rintro e w' ⟨rfl, rfl⟩)
  (go_wp2_with fail); (refine (unhide HC _).mono ?_); (rintro e w' ⟨rfl, rfl⟩)
  (go_wp2_with fail); (refine (unhide HZ _).mono ?_); (rintro e w' ⟨rfl, rfl⟩)
  go_wp2_with fail
  refine (unhide HSU _).mono ?_
  rintro e w1 ⟨rfl, hb1⟩
  have HPY := hide ((unhide HPL).kept hb1)
  have HBY := hide (hb1.mono (Nat.le_of_lt hql))
  clear hb1
  (go_wp2_with fail); (refine (unhide HW _).mono ?_); (rintro e w' ⟨rfl, rfl⟩)
  go_wp2_with fail
  refine (unhide HFA _ 14 _ rfl (unhide HPY)).mono ?_
  rintro e w9 ⟨rfl, hp9, hb9⟩
  have HP9 := hide hp9
  have HB9 := hide ((unhide HBY).trans hb9)
  clear hp9 hb9
  go_wp2
  refine bodyPost_ret (v := .tuple #[]) (by simp [results, Tryz.results125, go_sem]) rfl ⟨rfl, ?_, unhide HB9⟩
  rw [HE1.out]
  exact unhide HP9
set_option maxRecDepth 10000 in
set_option maxHeartbeats 2000000 in
theorem takes_there (hI : M.Inv' d) (i : Int) (s : ByteArray) (hR : RefAt X g d) (h : PlanIs X q (M.idle d)) (c1 : M.fld d.F 2 = 1) (n : Nat) (hi : i = n) (hn : n < M.chunksN (M.mf d.F 4)) (cs : s.size = M.chunkLen (M.mf d.F 4) n) (cw : M.crc s.data.toList = M.mf d.F (8 + 2 * n) * 256 + M.mf d.F (9 + 2 * n)) (ct : M.fld d.F 10 / 2 ^ n % 2 = 1) :
    Calls Tryz.prog 125 #[.pointer (some ⟨g, 0, none⟩), .pointer (some ⟨q, 0, none⟩), .int .i64 i, .string s] X fun e w' => Comes X q (M.takes d i s) e w' := by
  have hF := hI.2.1.bytes
  have H2 : Hid (Calls Tryz.prog 93 #[.pointer (some ⟨g, 0, none⟩), .int .i64 2] X fun e w' => e = .returned (.int .i64 (M.fld d.F 2)) ∧ X = w') := refField_any hR hF 2 (by omega)
  have HFA : Hid (∀ (Y : World) (e : Nat) (c : Int), c = e → PlanIs Y q (M.idle d) → Calls Tryz.prog 119 #[.pointer (some ⟨q, 0, none⟩), .int .i64 c] Y fun y w' => y = .returned (.tuple #[]) ∧ PlanIs w' q (M.fails d e) ∧ Below q Y w') := by
    rintro Y e c rfl hY
    exact refFails_any hY e
  have HPL := hide h
  have hql := PlanAt.ref h
  obtain ⟨a, ha⟩ := hI.2.1.man c1
  have hle := M.sealOf_le ha
  have HM := hide (refMan_any hR hF ha)
  have hz : (manT d.F a).size = a + 2 := M.mk_size _ _
  have hb4 : M.bz (manT d.F a) 4 = M.mf d.F 4 := M.bz_mk (fun j _ => mf_bytes hF j) (by omega)
  have hzm : (manT d.F a).size ≤ maxLen := by rw [hz]; unfold maxLen; omega
  have HC := hide (fun w => refChunks_any (manT d.F a) w (by rw [hz]; omega) hzm)
  rw [hb4] at HC
  have hc6 : M.chunksN (M.mf d.F 4) ≤ 6 := by unfold M.chunksN; omega
  have HZ := hide (fun w => refSize_any (manT d.F a) n w (by rw [hz]; omega) hzm (by rw [hb4]; exact hn))
  rw [hb4] at HZ
  have hcl : M.chunkLen (M.mf d.F 4) n ≤ 16 := by unfold M.chunkLen; omega
  have HSU := hide (fun w => refSum_any s w (by omega))
  have HW : Hid (∀ w : World, Calls Tryz.prog 147 #[.string (manT d.F a), .int .i64 (8 + 2 * (n : Int))] w fun e w' => e = .returned (.int .i64 ((M.mf d.F (8 + 2 * n) * 256 + M.mf d.F (9 + 2 * n) : Nat) : Int)) ∧ w = w') := by
    intro w
    have hr := refWord_any (manT d.F a) (8 + 2 * (n : Int)) w hzm (by omega) (by rw [hz]; omega)
    refine hr.mono fun e w' hh => ⟨hh.1.trans (ret_int ?_), hh.2⟩
    rw [show (8 + 2 * (n : Int)).toNat = 8 + 2 * n from by omega, M.bz_mk (fun j _ => mf_bytes hF j) (by omega), M.bz_mk (fun j _ => mf_bytes hF j) (by omega), show 8 + 2 * n + 1 = 9 + 2 * n from by omega]
    omega
  have hn6 : n < 6 := by omega
  have hp2 := pow_six hn6
  have H10 : Hid (∀ Y : World, RefAt Y g d → Calls Tryz.prog 93 #[.pointer (some ⟨g, 0, none⟩), .int .i64 10] Y fun e w' => e = .returned (.int .i64 (M.fld d.F 10)) ∧ Y = w') := fun Y hY => refField_any hY hF 10 (by omega)
  have b10 : M.fld d.F 10 < 256 := hF _
  have HRF := hide hR
  have HE1 : Hid (M.takes d i s = M.idle d) := by show _ = _; unfold M.takes; rw [if_neg (by omega), if_neg (by rw [hi, Int.toNat_natCast]; omega), if_pos (by rw [hi, Int.toNat_natCast]; exact ct)]
  subst hi
  clear hI hF hR h ha hz hb4 hzm hle
  rw [c1] at H2
  generalize manT d.F a = Tm at *
  generalize M.chunkLen (M.mf d.F 4) n = cl at *
  generalize M.chunksN (M.mf d.F 4) = c at *
  generalize M.mf d.F (8 + 2 * n) * 256 + M.mf d.F (9 + 2 * n) = wd at *
  generalize M.crc s.data.toList = sm at *
  have cs' : (s.size : Int) = (cl : Int) := by omega
  subst cw
  go_enter Tryz.func125, Tryz.ntmps125
  (go_wp2_with fail); (refine (unhide H2).mono ?_); (rintro e w' ⟨rfl, rfl⟩)
  (go_wp2_with fail); (refine (unhide HM).mono ?_); (rintro e w' ⟨rfl, rfl⟩)
  (go_wp2_with fail); (refine (unhide HC _).mono ?_); (rintro e w' ⟨rfl, rfl⟩)
  (go_wp2_with fail); (refine (unhide HZ _).mono ?_); (rintro e w' ⟨rfl, rfl⟩)
  go_wp2_with fail
  refine (unhide HSU _).mono ?_
  rintro e w1 ⟨rfl, hb1⟩
  have HPY := hide ((unhide HPL).kept hb1)
  have HRY := hide ((unhide HRF).kept hb1)
  have HBY := hide (hb1.mono (Nat.le_of_lt hql))
  clear hb1
  (go_wp2_with fail); (refine (unhide HW _).mono ?_); (rintro e w' ⟨rfl, rfl⟩)
  go_wp2_with fail
  go_loopw [9, 10] (fun bt kk wr => ∃ k : Nat, k ≤ n ∧ kk = .int .i64 k ∧ bt = .int .i64 ((2 ^ k : Nat) : Int) ∧ wr = w1) (fun _ kk _ => n - (intOf kk).toNat)
  case atStart => exact ⟨0, by omega, rfl, rfl, rfl⟩
  case round =>
    obtain ⟨k, hk, rfl, rfl, rfl⟩ := hrel
    have hk6 := pow_six (i := k) (by omega)
    by_cases hlt : k < n
    · have HPW : Hid ((2 : Int) * ((2 ^ k : Nat) : Int) = ((2 ^ (k + 1) : Nat) : Int)) := by show _ = _; rw [Nat.pow_succ]; omega
      generalize (2 ^ k : Nat) = pk at *
      go_wp2
      go_roundw
      case rel => exact ⟨k + 1, by omega, by go_num, ret_num HPW.out, by first | rfl | trivial⟩
      case measure => simp [intOf]; omega
    · have hkn : k = n := by omega
      subst hkn
      clear hlt hk
      have hq1 : ((M.fld d.F 10 : Nat) : Int).tdiv ((2 ^ k : Nat) : Int) = ((M.fld d.F 10 / 2 ^ k : Nat) : Int) := by rw [Int.tdiv_eq_ediv_of_nonneg (by omega)]; exact (Int.natCast_ediv _ _).symm
      generalize (2 ^ k : Nat) = pk at *
      generalize M.fld d.F 10 = f10 at *
      have hq3 : f10 / pk ≤ 255 := Nat.le_trans (Nat.div_le_self _ _) (by omega)
      generalize f10 / pk = f2k at *
      have hq2 : (f2k : Int).tmod 2 = 1 := by rw [Int.tmod_eq_emod_of_nonneg (by omega)]; omega
      have hpk0 : ¬ (pk : Int) = 0 := by omega
      go_wp2_with fail
      refine (unhide H10 _ (unhide HRY)).mono ?_
      rintro e _ ⟨rfl, rfl⟩
      go_wp2
      refine bodyPost_ret (v := .tuple #[]) (by simp [results, Tryz.results125, go_sem]) rfl ⟨rfl, ?_, unhide HBY⟩
      rw [HE1.out]
      exact unhide HPY
set_option maxRecDepth 10000 in
set_option maxHeartbeats 2000000 in
theorem takes_new (hI : M.Inv' d) (i : Int) (s : ByteArray) (hR : RefAt X g d) (hgq : g < q) (h : PlanIs X q (M.idle d)) (c1 : M.fld d.F 2 = 1) (n : Nat) (hi : i = n) (hn : n < M.chunksN (M.mf d.F 4)) (cs : s.size = M.chunkLen (M.mf d.F 4) n) (cw : M.crc s.data.toList = M.mf d.F (8 + 2 * n) * 256 + M.mf d.F (9 + 2 * n)) (ct : ¬ M.fld d.F 10 / 2 ^ n % 2 = 1) :
    Calls Tryz.prog 125 #[.pointer (some ⟨g, 0, none⟩), .pointer (some ⟨q, 0, none⟩), .int .i64 i, .string s] X fun e w' => Comes X q (M.takes d i s) e w' := by
  have hF := hI.2.1.bytes
  have H2 : Hid (Calls Tryz.prog 93 #[.pointer (some ⟨g, 0, none⟩), .int .i64 2] X fun e w' => e = .returned (.int .i64 (M.fld d.F 2)) ∧ X = w') := refField_any hR hF 2 (by omega)
  have HFA : Hid (∀ (Y : World) (e : Nat) (c : Int), c = e → PlanIs Y q (M.idle d) → Calls Tryz.prog 119 #[.pointer (some ⟨q, 0, none⟩), .int .i64 c] Y fun y w' => y = .returned (.tuple #[]) ∧ PlanIs w' q (M.fails d e) ∧ Below q Y w') := by
    rintro Y e c rfl hY
    exact refFails_any hY e
  have HPL := hide h
  have hql := PlanAt.ref h
  obtain ⟨a, ha⟩ := hI.2.1.man c1
  have hle := M.sealOf_le ha
  have HM := hide (refMan_any hR hF ha)
  have hz : (manT d.F a).size = a + 2 := M.mk_size _ _
  have hb4 : M.bz (manT d.F a) 4 = M.mf d.F 4 := M.bz_mk (fun j _ => mf_bytes hF j) (by omega)
  have hzm : (manT d.F a).size ≤ maxLen := by rw [hz]; unfold maxLen; omega
  have HC := hide (fun w => refChunks_any (manT d.F a) w (by rw [hz]; omega) hzm)
  rw [hb4] at HC
  have hc6 : M.chunksN (M.mf d.F 4) ≤ 6 := by unfold M.chunksN; omega
  have HZ := hide (fun w => refSize_any (manT d.F a) n w (by rw [hz]; omega) hzm (by rw [hb4]; exact hn))
  rw [hb4] at HZ
  have hcl : M.chunkLen (M.mf d.F 4) n ≤ 16 := by unfold M.chunkLen; omega
  have HSU := hide (fun w => refSum_any s w (by omega))
  have HW : Hid (∀ w : World, Calls Tryz.prog 147 #[.string (manT d.F a), .int .i64 (8 + 2 * (n : Int))] w fun e w' => e = .returned (.int .i64 ((M.mf d.F (8 + 2 * n) * 256 + M.mf d.F (9 + 2 * n) : Nat) : Int)) ∧ w = w') := by
    intro w
    have hr := refWord_any (manT d.F a) (8 + 2 * (n : Int)) w hzm (by omega) (by rw [hz]; omega)
    refine hr.mono fun e w' hh => ⟨hh.1.trans (ret_int ?_), hh.2⟩
    rw [show (8 + 2 * (n : Int)).toNat = 8 + 2 * n from by omega, M.bz_mk (fun j _ => mf_bytes hF j) (by omega), M.bz_mk (fun j _ => mf_bytes hF j) (by omega), show 8 + 2 * n + 1 = 9 + 2 * n from by omega]
    omega
  have hn6 : n < 6 := by omega
  have hp2 := pow_six hn6
  have H10 : Hid (∀ Y : World, RefAt Y g d → Calls Tryz.prog 93 #[.pointer (some ⟨g, 0, none⟩), .int .i64 10] Y fun e w' => e = .returned (.int .i64 (M.fld d.F 10)) ∧ Y = w') := fun Y hY => refField_any hY hF 10 (by omega)
  have b10 : M.fld d.F 10 < 256 := hF _
  have HRF := hide hR
  have HE1 : Hid (M.takes d i s = ⟨[M.textW (5 + n) s 0, M.noteW d.F 0 (M.fld d.F 1) 1 (M.fld d.F 3) (M.fld d.F 4) (M.fld d.F 5) (M.fld d.F 6) (M.fld d.F 7) (M.fld d.F 8) (M.fld d.F 9) (M.fld d.F 10 + 2 ^ n)], 0, ⟨#[]⟩, -1, 0, 1, d.age, d.on⟩) := by show _ = _; unfold M.takes; rw [if_neg (by omega), if_neg (by rw [hi, Int.toNat_natCast]; omega), if_neg (by rw [hi, Int.toNat_natCast]; exact ct), hi, Int.toNat_natCast]
  have hroom := bit_room b10 hn6 ct
  have hw := recAt_le d.F
  have hk1 := hI.2.1.kept
  have HWH := hide (fun (Y : World) (hY : RefAt Y g d) => refWhere_any hY hF)
  have HPA := hide (fun (Y : World) (hY : RefAt Y g d) => refPage_any hY hF (M.recAt d.F))
  have H1 : Hid (∀ Y : World, RefAt Y g d → Calls Tryz.prog 93 #[.pointer (some ⟨g, 0, none⟩), .int .i64 1] Y fun e w' => e = .returned (.int .i64 (M.fld d.F 1)) ∧ Y = w') := fun Y hY => refField_any hY hF 1 (by omega)
  have H3 : Hid (∀ Y : World, RefAt Y g d → Calls Tryz.prog 93 #[.pointer (some ⟨g, 0, none⟩), .int .i64 3] Y fun e w' => e = .returned (.int .i64 (M.fld d.F 3)) ∧ Y = w') := fun Y hY => refField_any hY hF 3 (by omega)
  have HWR : Hid (∀ (Y : World) (z : Int), z = ((5 + n : Nat) : Int) → PlanIs Y q (M.idle d) → Calls Tryz.prog 151 #[.pointer (some ⟨q, 0, none⟩), .int .i64 z, .string s] Y fun e w' => e = .returned (.tuple #[]) ∧ PlanAt w' q [wrG (M.textW (5 + n) s 0)] 0 0 ⟨#[]⟩ (-1) d.wait d.next d.age d.on ∧ Below q Y w') := by
    rintro Y z rfl hP
    have := refWrites_any hP (5 + n) s (by omega) (by show 0 ≤ 50; omega)
    have e : ((5 + n, M.mk 16 (M.bz s)) : GW) = wrG (M.textW (5 + n) s 0) := by
      unfold wrG M.textW
      exact congrArg (Prod.mk (5 + n)) (M.mk_congr fun j _ => by show M.bz s j = M.bz s (0 + j); rw [Nat.zero_add])
    rw [e] at this
    exact this
  have HN : Hid (∀ (Y : World) (c3 c4 : Int), c3 = (M.fld d.F 3 : Nat) → c4 = ((M.fld d.F 10 + 2 ^ n : Nat) : Int) → RefAt Y g d → PlanAt Y q [wrG (M.textW (5 + n) s 0)] 0 0 ⟨#[]⟩ (-1) d.wait d.next d.age d.on → Calls Tryz.prog 154 #[.pointer (some ⟨g, 0, none⟩), .pointer (some ⟨q, 0, none⟩), .int .i64 0, .int .i64 (M.fld d.F 1), .int .i64 1, .int .i64 c3, .string ((pageT d.F (M.recAt d.F)).extract 4 6), .string ((pageT d.F (M.recAt d.F)).extract 6 10), .int .i64 c4] Y fun e w' =>
      e = .returned (.tuple #[]) ∧ PlanAt w' q [wrG (M.textW (5 + n) s 0), wrG (M.noteW d.F 0 (M.fld d.F 1) 1 (M.fld d.F 3) (M.fld d.F 4) (M.fld d.F 5) (M.fld d.F 6) (M.fld d.F 7) (M.fld d.F 8) (M.fld d.F 9) (M.fld d.F 10 + 2 ^ n))] 0 0 ⟨#[]⟩ (-1) d.wait d.next d.age d.on ∧ Below q Y w') := by
    intro Y c3 c4 h3 h4 hY hP
    exact refNotes_own hY hF hP (by show 1 ≤ 50; omega) 0 (M.fld d.F 1) 1 (M.fld d.F 3) (M.fld d.F 10 + 2 ^ n) _ 1 c3 c4 (by omega) (by omega) (by omega) (hF _) hroom rfl rfl h3 h4
  have hzP : (pageT d.F (M.recAt d.F)).size = 16 := pageT_size (by omega)
  have i6 : (6 : Int) ≤ ((pageT d.F (M.recAt d.F)).size : Int) := by omega
  have i10 : (10 : Int) ≤ ((pageT d.F (M.recAt d.F)).size : Int) := by omega
  have b3 : M.fld d.F 3 < 256 := hF _
  subst hi
  clear hzP hI hF hR h ha hz hb4 hzm hle
  rw [c1] at H2
  generalize manT d.F a = Tm at *
  generalize M.chunkLen (M.mf d.F 4) n = cl at *
  generalize M.chunksN (M.mf d.F 4) = c at *
  generalize M.mf d.F (8 + 2 * n) * 256 + M.mf d.F (9 + 2 * n) = wd at *
  generalize M.crc s.data.toList = sm at *
  have cs' : (s.size : Int) = (cl : Int) := by omega
  subst cw
  go_enter Tryz.func125, Tryz.ntmps125
  (go_wp2_with fail); (refine (unhide H2).mono ?_); (rintro e w' ⟨rfl, rfl⟩)
  (go_wp2_with fail); (refine (unhide HM).mono ?_); (rintro e w' ⟨rfl, rfl⟩)
  (go_wp2_with fail); (refine (unhide HC _).mono ?_); (rintro e w' ⟨rfl, rfl⟩)
  (go_wp2_with fail); (refine (unhide HZ _).mono ?_); (rintro e w' ⟨rfl, rfl⟩)
  go_wp2_with fail
  refine (unhide HSU _).mono ?_
  rintro e w1 ⟨rfl, hb1⟩
  have HPY := hide ((unhide HPL).kept hb1)
  have HRY := hide ((unhide HRF).kept hb1)
  have HBY := hide (hb1.mono (Nat.le_of_lt hql))
  clear hb1
  (go_wp2_with fail); (refine (unhide HW _).mono ?_); (rintro e w' ⟨rfl, rfl⟩)
  go_wp2_with fail
  go_loopw [9, 10] (fun bt kk wr => ∃ k : Nat, k ≤ n ∧ kk = .int .i64 k ∧ bt = .int .i64 ((2 ^ k : Nat) : Int) ∧ wr = w1) (fun _ kk _ => n - (intOf kk).toNat)
  case atStart => exact ⟨0, by omega, rfl, rfl, rfl⟩
  case round =>
    obtain ⟨k, hk, rfl, rfl, rfl⟩ := hrel
    have hk6 := pow_six (i := k) (by omega)
    by_cases hlt : k < n
    · have HPW : Hid ((2 : Int) * ((2 ^ k : Nat) : Int) = ((2 ^ (k + 1) : Nat) : Int)) := by show _ = _; rw [Nat.pow_succ]; omega
      generalize (2 ^ k : Nat) = pk at *
      go_wp2
      go_roundw
      case rel => exact ⟨k + 1, by omega, by go_num, ret_num HPW.out, by first | rfl | trivial⟩
      case measure => simp [intOf]; omega
    · have hkn : k = n := by omega
      subst hkn
      clear hlt hk
      have hq1 : ((M.fld d.F 10 : Nat) : Int).tdiv ((2 ^ k : Nat) : Int) = ((M.fld d.F 10 / 2 ^ k : Nat) : Int) := by rw [Int.tdiv_eq_ediv_of_nonneg (by omega)]; exact (Int.natCast_ediv _ _).symm
      generalize hG2 : wrG (M.noteW d.F 0 (M.fld d.F 1) 1 (M.fld d.F 3) (M.fld d.F 4) (M.fld d.F 5) (M.fld d.F 6) (M.fld d.F 7) (M.fld d.F 8) (M.fld d.F 9) (M.fld d.F 10 + 2 ^ k)) = G2 at *
      have HG2 := hide hG2
      clear hG2
      generalize hG1 : wrG (M.textW (5 + k) s 0) = G1 at *
      have HG1 := hide hG1
      clear hG1
      generalize pageT d.F (M.recAt d.F) = P at *
      generalize M.recAt d.F = ra at *
      generalize (2 ^ k : Nat) = pk at *
      generalize M.fld d.F 10 = f10 at *
      generalize M.fld d.F 1 = f1 at *
      generalize M.fld d.F 3 = f3 at *
      have hq3 : f10 / pk ≤ 255 := Nat.le_trans (Nat.div_le_self _ _) (by omega)
      generalize f10 / pk = f2k at *
      have hq2 : ¬ (f2k : Int).tmod 2 = 1 := by rw [Int.tmod_eq_emod_of_nonneg (by omega)]; omega
      have hpk0 : ¬ (pk : Int) = 0 := by omega
      have hw4 : IntKind.i64.wrap ((f10 : Int) + (pk : Int)) = (f10 : Int) + (pk : Int) := IntWalk.i64_in _ ⟨by omega, by omega⟩
      go_wp2_with fail
      refine (unhide H10 _ (unhide HRY)).mono ?_
      rintro e _ ⟨rfl, rfl⟩
      go_wp2_with fail
      refine (unhide HWH _ (unhide HRY)).mono ?_
      rintro e _ ⟨rfl, rfl⟩
      go_wp2_with fail
      refine (unhide HPA _ (unhide HRY)).mono ?_
      rintro e _ ⟨rfl, rfl⟩
      go_wp2_with fail
      refine (unhide HWR _ _ (by omega) (unhide HPY)).mono ?_
      rintro e w2 ⟨rfl, hp2', hb2⟩
      have HP2 := hide hp2'
      have HR2 := hide ((unhide HRY).below hb2 hgq)
      have HB2 := hide ((unhide HBY).trans hb2)
      clear hp2' hb2 HPY HRY HBY hq1 hq2 hq3 H10 HWH HPA HWR
      go_wp2_with fail
      go_region_held3 (fun _ => True) (first | trivial | (intros; trivial)) ((first
        | (go_at_call 93; (first | with_reducible refine (unhide H1 _ ((unhide HR2).kept (Below.refl _ _).drew)).mono ?_ | with_reducible refine (unhide H3 _ ((unhide HR2).kept (Below.refl _ _).drew)).mono ?_); rintro y wN ⟨rfl, rfl⟩)
        | (go_at_call 154; with_reducible refine (unhide HN _ _ _ (by omega) (by omega) ((unhide HR2).kept (Below.refl _ _).drew) ((unhide HP2).kept (Below.refl _ _).drew)).mono ?_; rintro y w9 ⟨rfl, hp9, hb9⟩)))
      all_goals
        have HP9 := hide hp9
        have HB9 : Hid (Below q X w9) := (unhide HB2).trans (Below.trans (Below.refl q w2).drew hb9)
        obtain ⟨⟨ao, ca, to, ct', hxf⟩, hff⟩ := hp9.facts
        have hqf := hp9.ref
        clear hp9 hb9 hw4
        have HPf := hide (((unhide HP9).setWait 0).setNext 1)
        have HBf := hide (low_set (o := 7) (v := .int .i64 1) (low_set (o := 6) (v := .int .i64 0) (unhide HB9)))
        go_wp2
        refine bodyPost_end (v := .tuple #[]) (by simp [results, Tryz.results125, go_sem]) rfl ⟨rfl, ?_, unhide HBf⟩
        rw [HE1.out]
        have hfin := unhide HPf
        rw [← HG2.out, ← HG1.out] at hfin
        exact hfin
/-- a chunk that is given comes to what it should -/
theorem refTakes_any (hI : M.Inv' d) (i : Int) (s : ByteArray) (hR : RefAt X g d) (hgq : g < q) (h : PlanIs X q (M.idle d)) :
    Calls Tryz.prog 125 #[.pointer (some ⟨g, 0, none⟩), .pointer (some ⟨q, 0, none⟩), .int .i64 i, .string s] X fun e w' => Comes X q (M.takes d i s) e w' := by
  by_cases c1 : M.fld d.F 2 = 1
  · by_cases ci : i < 0
    · exact takes_low hI i s hR h c1 ci
    by_cases cc : (M.chunksN (M.mf d.F 4) : Int) ≤ i
    · exact takes_high hI i s hR h c1 ci cc
    obtain ⟨n, rfl⟩ := Int.eq_ofNat_of_zero_le (show 0 ≤ i by omega)
    have hn : n < M.chunksN (M.mf d.F 4) := by omega
    by_cases cs : s.size = M.chunkLen (M.mf d.F 4) n
    · by_cases cw : M.crc s.data.toList = M.mf d.F (8 + 2 * n) * 256 + M.mf d.F (9 + 2 * n)
      · by_cases ct : M.fld d.F 10 / 2 ^ n % 2 = 1
        · exact takes_there hI n s hR h c1 n rfl hn cs cw ct
        · exact takes_new hI n s hR hgq h c1 n rfl hn cs cw ct
      · exact takes_sum hI n s hR h c1 n rfl hn cs cw
    · exact takes_size hI n s hR h c1 n rfl hn cs
  · exact takes_idle hI i s hR h c1
end
end Go.Proofs.YtjfmiomopfjecabGreat

/- The document's answer: slotsref.first, slotsref.Patch. -/
namespace Go.Proofs.YtjfmiomopfjecabGreat
open Go.RowKit Go.Lib

def firstYes (b p : ByteArray) : Value := .tuple #[.string (M.opGives b p 0), .string (M.suf p (M.opLen p 0)), .bool true]
def firstNo : Value := .tuple #[.string ⟨#[]⟩, .string ⟨#[]⟩, .bool false]
theorem refNumber_nat (s : ByteArray) (i : Nat) (w : World) (hs : s.size ≤ maxLen) :
    Calls Tryz.prog 117 #[.string s, .int .i64 i] w fun e w' => e = .returned (.int .i64 (refNum s i)) ∧ w = w' := by
  have h := refNumber_any s (i : Int) w hs (by omega)
  rw [Int.toNat_natCast] at h
  exact h
theorem taken_yes_at (s : ByteArray) (k c : Int) (a n : Nat) (w : World) (hs : s.size ≤ 2000000) (h : a + n ≤ s.size) (hk : k = a) (hc : c = n) :
    Calls Tryz.prog 203 #[.string s, .int .i64 k, .int .i64 c] w fun e w' => e = .returned (.tuple #[.string (M.mk n fun j => M.bz s (a + j)), .bool true]) ∧ w = w' := by
  subst hk hc
  exact taken_yes s a n w hs h
theorem ret_first {a b c d : ByteArray} (h1 : a = b) (h2 : c = d) : Ending.returned (.tuple #[.string a, .string c, .bool true]) = .returned (.tuple #[.string b, .string d, .bool true]) := by rw [h1, h2]

theorem below_drewN' {n : Nat} {w w' : World} (h : Below n w w') (k : Nat) : Below n w (w'.drewN k) := by
  induction k with
  | zero => exact h
  | succ k ih => exact ih.drew
theorem text_cell (W : World) (g y : Nat) (hy : y < 256) (hc : W.cell? ⟨g, 0, none⟩ = some (.int .u8 (y : Int))) :
    (convert 79 9 (.slice (some ⟨g, 0, none⟩) 1 1)).run Tryz.prog W = .ok (.string (M.bytesOf [y])) W := by
  have hl : (loadCells ⟨g, 0, none⟩ 1).run Tryz.prog W = .ok ([(y : Int)].map (Value.int .u8)).toArray W := by
    refine run_loadCells_list (P := Tryz.prog) (w := W) ⟨g, 0, none⟩ [.int .u8 (y : Int)] ?_
    intro j v hj
    match j, hj with
    | 0, hj => simp at hj; subst hj; rw [add_at]; exact hc
  rw [run_convert_bytes_string _ 79 9 5 _ _ _ Tryz.underlying79 Tryz.underlying5 Tryz.underlying9, run_bytesToString _ _ _ _ _ hl]
  have e : ((y : Int)).toNat = y := by omega
  simp [M.bytesOf, e, ByteArray.push]
theorem extract_one (p : ByteArray) (a : Nat) (h : a + 1 ≤ p.size) : p.extract a (a + 1) = M.bytesOf [M.bz p a] := by rw [M.extract_mk p a 1 h]; rfl

theorem first_zero (b p : ByteArray) (w : World) (hp : p.size ≤ 2000000) (hb : b.size ≤ 2000000) (hp0 : 0 < p.size) (h0 : M.bz p 0 = 0) (hok : M.opOk b p 0 = true) :
    Calls Tryz.prog 200 #[.string b, .string p] w fun e w' => e = .returned (firstYes b p) ∧ Below w.heap.size w w' := by
  have hpm : p.size ≤ maxLen := by unfold maxLen; omega
  have hl : M.opLen p 0 = 3 := by simp [M.opLen, h0]
  have hle := M.opOk_le hok
  rw [hl] at hle
  have hf : M.bz p 1 + M.bz p 2 ≤ b.size := by
    simp only [M.opOk, M.opFits, h0, Bool.and_eq_true, decide_true, Bool.true_or, Bool.not_true, Bool.false_or, decide_eq_true_eq] at hok
    exact hok.2
  have HG : Hid ((M.mk (M.bz p 2) fun j => M.bz b (M.bz p 1 + j)) = M.opGives b p 0) := by
    show _ = M.mk (M.opCount p 0) (M.opByte b p 0)
    have e2 : M.opCount p 0 = M.bz p 2 := by simp [M.opCount, h0]
    rw [e2]
    exact M.mk_congr fun j _ => by simp [M.opByte, h0]
  have HS : Hid (p.extract (3) p.size = M.suf p (M.opLen p 0)) := by rw [hl]; rfl
  have b1 := M.bz_lt p 1
  have b2 := M.bz_lt p 2
  have n0 := refNum_in (s := p) (i := 0) (by omega)
  have n1 := refNum_in (s := p) (i := 1) (by omega)
  have n2 := refNum_in (s := p) (i := 2) (by omega)
  clear hok
  go_enter Tryz.func200, Tryz.ntmps200
  go_wp2_with fail
  refine (refNumber_nat p 1 _ hpm).mono ?_
  rintro e w' ⟨rfl, rfl⟩
  rw [n1]
  go_wp2_with fail
  refine (refNumber_nat p 2 _ hpm).mono ?_
  rintro e w' ⟨rfl, rfl⟩
  rw [n2]
  go_wp2_with fail
  refine (refNumber_nat p 0 _ hpm).mono ?_
  rintro e w' ⟨rfl, rfl⟩
  rw [n0, h0]
  clear n0 n1 n2 h0 hl
  generalize M.bz p 1 = x at *
  generalize M.bz p 2 = y at *
  go_wp2_with fail
  refine (taken_yes b x y _ hb hf).mono ?_
  rintro e w' ⟨rfl, rfl⟩
  generalize (M.mk y fun j => M.bz b (x + j)) = t at *
  have hle' : (3 : Int) ≤ (p.size : Int) := by omega
  go_wp2_with fail
  go_quiet (fail)
  go_wp2
  refine bodyPost_ret (v := .tuple #[.string _, .string _, .bool true]) (by simp [results, Tryz.results200, go_sem]; try rfl) rfl ⟨ret_first HG.out HS.out, below_drewN' (Below.refl _ _) _⟩
theorem first_one (b p : ByteArray) (w : World) (hp : p.size ≤ 2000000) (_hb : b.size ≤ 2000000) (hp0 : 0 < p.size) (h0 : M.bz p 0 = 1) (hok : M.opOk b p 0 = true) :
    Calls Tryz.prog 200 #[.string b, .string p] w fun e w' => e = .returned (firstYes b p) ∧ Below w.heap.size w w' := by
  have hpm : p.size ≤ maxLen := by unfold maxLen; omega
  have hl : M.opLen p 0 = 2 + M.bz p 1 := by simp [M.opLen, h0]
  have hle := M.opOk_le hok
  rw [hl] at hle
  have HG : Hid ((M.mk (M.bz p 1) fun j => M.bz p (2 + j)) = M.opGives b p 0) := by
    show _ = M.mk (M.opCount p 0) (M.opByte b p 0)
    have e2 : M.opCount p 0 = M.bz p 1 := by simp [M.opCount, h0]
    rw [e2]
    exact M.mk_congr fun j _ => by simp [M.opByte, h0]
  have HS : Hid (p.extract (2 + M.bz p 1) p.size = M.suf p (M.opLen p 0)) := by rw [hl]; rfl
  have b1 := M.bz_lt p 1
  have b2 := M.bz_lt p 2
  have n0 := refNum_in (s := p) (i := 0) (by omega)
  have n1 := refNum_in (s := p) (i := 1) (by omega)
  have r2 := refNum_bd p 2
  clear hok
  go_enter Tryz.func200, Tryz.ntmps200
  go_wp2_with fail
  refine (refNumber_nat p 1 _ hpm).mono ?_
  rintro e w' ⟨rfl, rfl⟩
  rw [n1]
  go_wp2_with fail
  refine (refNumber_nat p 2 _ hpm).mono ?_
  rintro e w' ⟨rfl, rfl⟩
  generalize refNum p 2 = y at *
  go_wp2_with fail
  refine (refNumber_nat p 0 _ hpm).mono ?_
  rintro e w' ⟨rfl, rfl⟩
  rw [n0, h0]
  clear n0 n1 h0 hl
  generalize M.bz p 1 = x at *
  go_wp2_with fail
  refine (taken_yes_at p _ _ 2 x _ hp (by omega) rfl rfl).mono ?_
  rintro e w' ⟨rfl, rfl⟩
  generalize (M.mk x fun j => M.bz p (2 + j)) = t at *
  have hle' : (2 : Int) + (x : Int) ≤ (p.size : Int) := by omega
  have hw1 : IntKind.i64.wrap ((2 : Int) + (x : Int)) = (2 : Int) + (x : Int) := IntWalk.i64_in _ ⟨by omega, by omega⟩
  have hn1 : ((2 : Int) + (x : Int)).toNat = 2 + x := by omega
  have hn2 : (0 : Int) ≤ (2 : Int) + (x : Int) := by omega
  go_wp2_with fail
  go_quiet (fail)
  go_wp2
  refine bodyPost_ret (v := .tuple #[.string _, .string _, .bool true]) (by simp [results, Tryz.results200, go_sem]; try rfl) rfl ⟨ret_first HG.out HS.out, below_drewN' (Below.refl _ _) _⟩
theorem first_two (b p : ByteArray) (w : World) (hp : p.size ≤ 2000000) (_hb : b.size ≤ 2000000) (hp0 : 0 < p.size) (h0 : M.bz p 0 = 2) (hok : M.opOk b p 0 = true) :
    Calls Tryz.prog 200 #[.string b, .string p] w fun e w' => e = .returned (firstYes b p) ∧ Below w.heap.size w w' := by
  have hpm : p.size ≤ maxLen := by unfold maxLen; omega
  have hl : M.opLen p 0 = 3 := by simp [M.opLen, h0]
  have hle := M.opOk_le hok
  rw [hl] at hle
  have HG : Hid ((M.mk (M.bz p 1) fun _ => M.bz p 2) = M.opGives b p 0) := by
    show _ = M.mk (M.opCount p 0) (M.opByte b p 0)
    have e2 : M.opCount p 0 = M.bz p 1 := by simp [M.opCount, h0]
    rw [e2]
    exact M.mk_congr fun j _ => by simp [M.opByte, h0]
  have HS : Hid (p.extract (3) p.size = M.suf p (M.opLen p 0)) := by rw [hl]; rfl
  have b1 := M.bz_lt p 1
  have b2 := M.bz_lt p 2
  have n0 := refNum_in (s := p) (i := 0) (by omega)
  have n1 := refNum_in (s := p) (i := 1) (by omega)
  have n2 := refNum_in (s := p) (i := 2) (by omega)
  clear hok
  go_enter Tryz.func200, Tryz.ntmps200
  go_wp2_with fail
  refine (refNumber_nat p 1 _ hpm).mono ?_
  rintro e w' ⟨rfl, rfl⟩
  rw [n1]
  go_wp2_with fail
  refine (refNumber_nat p 2 _ hpm).mono ?_
  rintro e w' ⟨rfl, rfl⟩
  rw [n2]
  go_wp2_with fail
  refine (refNumber_nat p 0 _ hpm).mono ?_
  rintro e w' ⟨rfl, rfl⟩
  rw [n0, h0]
  clear n0 n1 n2 h0 hl
  generalize M.bz p 1 = x at *
  have HX := hide (extract_one p 2 (by omega))
  have HX1 : Hid ((p.extract 2 3).size = 1) := by rw [ByteArray.size_extract]; show _ = _; omega
  have HST := hide (fun k => M.mk_succ k fun _ => M.bz p 2)
  have hle' : (3 : Int) ≤ (p.size : Int) := by omega
  go_wp2_with fail
  go_loopw [13, 14] (fun v i wr => ∃ (k : Nat) (t : ByteArray), k ≤ x ∧ i = .int .i64 k ∧ v = .string t ∧ Hid (t = M.mk k fun _ => M.bz p 2) ∧ t.size ≤ k ∧ wr = w) (fun _ i _ => x - (intOf i).toNat)
  case atStart => exact ⟨0, ⟨#[]⟩, by omega, rfl, rfl, rfl, by show 0 ≤ _; omega, rfl⟩
  case round =>
    obtain ⟨k, t, hk, rfl, rfl, ht, htz, rfl⟩ := hrel
    by_cases hlt : k < x
    · have hx1 : (p.extract 2 3).size ≤ 1 := by rw [HX1.out]; exact Nat.le_refl _
      have HE : Hid (t ++ p.extract 2 3 = M.mk (k + 1) fun _ => M.bz p 2) := by rw [HST.out k, ← ht.out, HX.out]; rfl
      have HZ : Hid ((t ++ p.extract 2 3).size ≤ k + 1) := by rw [HE.out, M.mk_size]; exact Nat.le_refl _
      go_wp2
      go_roundw
      case rel => exact ⟨k + 1, t ++ p.extract 2 3, by omega, by go_num, rfl, HE, unhide HZ, by first | rfl | trivial⟩
      case measure => simp [intOf]; omega
    · have hkx : k = x := by omega
      subst hkx
      go_wp2_with fail
      go_quiet (fail)
      go_wp2
      refine bodyPost_ret (v := .tuple #[.string _, .string _, .bool true]) (by simp [results, Tryz.results200, go_sem]; try rfl) rfl ⟨ret_first (by rw [ht.out]; exact HG.out) HS.out, below_drewN' (Below.refl _ _) _⟩
set_option maxRecDepth 10000 in
theorem first_three (b p : ByteArray) (w : World) (hp : p.size ≤ 2000000) (hb : b.size ≤ 2000000) (hp0 : 0 < p.size) (h0 : M.bz p 0 = 3) (hok : M.opOk b p 0 = true) :
    Calls Tryz.prog 200 #[.string b, .string p] w fun e w' => e = .returned (firstYes b p) ∧ Below w.heap.size w w' := by
  have hpm : p.size ≤ maxLen := by unfold maxLen; omega
  have hl : M.opLen p 0 = 3 + M.bz p 2 := by simp [M.opLen, h0]
  have hle := M.opOk_le hok
  rw [hl] at hle
  have hf : M.bz p 1 + M.bz p 2 ≤ b.size := by
    simp only [M.opOk, M.opFits, h0, Bool.and_eq_true, decide_true, Bool.or_true, Bool.not_true, Bool.false_or, decide_eq_true_eq] at hok
    exact hok.2
  have HG : Hid ((M.mk (M.bz p 2) fun j => (M.bz (M.mk (M.bz p 2) fun j => M.bz b (M.bz p 1 + j)) j + M.bz (M.mk (M.bz p 2) fun j => M.bz p (3 + j)) j) % 256) = M.opGives b p 0) := by
    show _ = M.mk (M.opCount p 0) (M.opByte b p 0)
    have e2 : M.opCount p 0 = M.bz p 2 := by simp [M.opCount, h0]
    rw [e2]
    refine M.mk_congr fun j hj => ?_
    rw [M.bz_mk (fun _ _ => M.bz_lt _ _) hj, M.bz_mk (fun _ _ => M.bz_lt _ _) hj]
    simp [M.opByte, h0]
  have HS : Hid (p.extract (3 + M.bz p 2) p.size = M.suf p (M.opLen p 0)) := by rw [hl]; rfl
  have b1 := M.bz_lt p 1
  have b2 := M.bz_lt p 2
  have n0 := refNum_in (s := p) (i := 0) (by omega)
  have n1 := refNum_in (s := p) (i := 1) (by omega)
  have n2 := refNum_in (s := p) (i := 2) (by omega)
  clear hok
  go_enter Tryz.func200, Tryz.ntmps200
  go_wp2_with fail
  refine (refNumber_nat p 1 _ hpm).mono ?_
  rintro e w' ⟨rfl, rfl⟩
  rw [n1]
  go_wp2_with fail
  refine (refNumber_nat p 2 _ hpm).mono ?_
  rintro e w' ⟨rfl, rfl⟩
  rw [n2]
  go_wp2_with fail
  refine (refNumber_nat p 0 _ hpm).mono ?_
  rintro e w' ⟨rfl, rfl⟩
  rw [n0, h0]
  clear n0 n1 n2 h0 hl
  generalize M.bz p 1 = x at *
  generalize M.bz p 2 = y at *
  have Z1 := hide (M.mk_size y fun j => M.bz p (3 + j))
  have Z2 := hide (M.mk_size y fun j => M.bz b (x + j))
  go_wp2_with fail
  refine (taken_yes b x y _ hb hf).mono ?_
  rintro e w' ⟨rfl, rfl⟩
  go_wp2_with fail
  refine (taken_yes_at p _ _ 3 y _ hp (by omega) rfl rfl).mono ?_
  rintro e w' ⟨rfl, rfl⟩
  generalize (M.mk y fun j => M.bz b (x + j)) = t at *
  generalize (M.mk y fun j => M.bz p (3 + j)) = u at *
  have z1 : y ≤ t.size := by rw [Z2.out]; exact Nat.le_refl _
  have z2 : y ≤ u.size := by rw [Z1.out]; exact Nat.le_refl _
  have hle' : (3 : Int) + (y : Int) ≤ (p.size : Int) := by omega
  have hw1 : IntKind.i64.wrap ((3 : Int) + (y : Int)) = (3 : Int) + (y : Int) := IntWalk.i64_in _ ⟨by omega, by omega⟩
  have hn1 : ((3 : Int) + (y : Int)).toNat = 3 + y := by omega
  have hn2 : (0 : Int) ≤ (3 : Int) + (y : Int) := by omega
  go_wp2_with fail
  go_loopw [19, 20] (fun v i wr => ∃ (k : Nat) (o : ByteArray), k ≤ y ∧ i = .int .i64 k ∧ v = .string o ∧ Hid (o = M.mk k fun j => (M.bz t j + M.bz u j) % 256) ∧ o.size ≤ k ∧ Below w.heap.size w wr) (fun _ i _ => y - (intOf i).toNat)
  case atStart => exact ⟨0, ⟨#[]⟩, by omega, rfl, rfl, rfl, by show 0 ≤ _; omega, Below.refl _ _⟩
  case round =>
    obtain ⟨k, o, hk, rfl, rfl, ho, hoz, hbel⟩ := hrel
    have hsz := hbel.size
    have HB := hide hbel
    clear hbel
    by_cases hlt : k < y
    · have p0 : k < t.size := by omega
      have p1 : k < u.size := by omega
      have HE : Hid (o ++ M.bytesOf [((t[k]'p0).toNat + (u[k]'p1).toNat) % 256] = M.mk (k + 1) fun j => (M.bz t j + M.bz u j) % 256) := by
        rw [M.mk_succ, ← ho.out, M.bz_at t k p0, M.bz_at u k p1]; rfl
      have HZ : Hid ((o ++ M.bytesOf [((t[k]'p0).toNat + (u[k]'p1).toNat) % 256]).size ≤ k + 1) := by rw [HE.out, M.mk_size]; exact Nat.le_refl _
      have b3 : (t[k]'p0).toNat < 256 := UInt8.toNat_lt _
      have b4 : (u[k]'p1).toNat < 256 := UInt8.toNat_lt _
      have i0 : (k : Int) < (t.size : Int) := by omega
      have i1 : (k : Int) < (u.size : Int) := by omega
      have w0 : IntKind.i64.wrap ((t[k]'p0).toNat : Int) = ((t[k]'p0).toNat : Int) := IntWalk.i64_in _ ⟨by omega, by omega⟩
      have w1 : IntKind.i64.wrap ((u[k]'p1).toNat : Int) = ((u[k]'p1).toNat : Int) := IntWalk.i64_in _ ⟨by omega, by omega⟩
      have w2 : IntKind.i64.wrap (((t[k]'p0).toNat : Int) + ((u[k]'p1).toNat : Int)) = ((t[k]'p0).toNat : Int) + ((u[k]'p1).toNat : Int) := IntWalk.i64_in _ ⟨by omega, by omega⟩
      have htm : (((t[k]'p0).toNat : Int) + ((u[k]'p1).toNat : Int)).tmod 256 = (((((t[k]'p0).toNat + (u[k]'p1).toNat) % 256 : Nat)) : Int) := by rw [Int.tmod_eq_emod_of_nonneg (by omega)]; omega
      have hlt2 : ((t[k]'p0).toNat + (u[k]'p1).toNat) % 256 < 256 := Nat.mod_lt _ (by omega)
      obtain ⟨r, hr⟩ : ∃ r, r = ((t[k]'p0).toNat + (u[k]'p1).toNat) % 256 := ⟨_, rfl⟩
      rw [← hr] at htm hlt2 HE HZ
      clear hr
      have hw8 : IntKind.u8.wrap (r : Int) = (r : Int) := IntWalk.u8_in _ ⟨by omega, by omega⟩
      have hcv := text_cell ((wr.alloc (.cells #[.int .u8 (r : Int)] 5)).drew) wr.heap.size r hlt2 (by simp)
      have hTz : (M.bytesOf [r]).size ≤ 1 := Nat.le_refl _
      generalize M.bytesOf [r] = T at *
      have hpl : ¬ 9223372036854775807 < o.size + T.size := by omega
      have hpl2 : ¬ (9223372036854775807 : Int) < (o.size : Int) + (T.size : Int) := by omega
      go_wp2_with fail
      go_region
      all_goals
        have HB1 : Hid (Below w.heap.size w ((wr.alloc (.cells #[.int .u8 (r : Int)] 5)).drew)) := ((unhide HB).alloc hsz _).drew
        go_wp2
        go_roundw
        case rel => exact ⟨k + 1, o ++ T, by omega, by go_num, rfl, HE, unhide HZ, unhide HB1⟩
        case measure => simp [intOf]; omega
    · have hkx : k = y := by omega
      subst hkx
      go_wp2_with fail
      go_quiet (fail)
      go_wp2
      refine bodyPost_ret (v := .tuple #[.string _, .string _, .bool true]) (by simp [results, Tryz.results200, go_sem]; try rfl) rfl ⟨ret_first (by rw [ho.out]; exact HG.out) HS.out, below_drewN' (unhide HB) _⟩
end Go.Proofs.YtjfmiomopfjecabGreat

/- The document's answer where a step is none, and slotsref.Patch. -/
namespace Go.Proofs.YtjfmiomopfjecabGreat
open Go.RowKit Go.Lib

theorem notOk {b p : ByteArray} (h : M.opOk b p 0 = false) (h3 : M.bz p 0 ≤ 3) : p.size < M.opLen p 0 ∨ ((M.bz p 0 = 0 ∨ M.bz p 0 = 3) ∧ b.size < M.bz p 1 + M.bz p 2) := by
  unfold M.opOk M.opThere M.opFits at h
  rw [decide_eq_true h3, Bool.true_and] at h
  simp only [Nat.zero_add, Bool.and_eq_false_iff, decide_eq_false_iff_not, Bool.or_eq_false_iff, Bool.not_eq_false', Bool.or_eq_true, decide_eq_true_eq] at h
  omega
theorem refNum_out {s : ByteArray} {i : Nat} (h : s.size ≤ i) : refNum s i = -1 := if_neg (by omega)
theorem firstNo_zero (b p : ByteArray) (w : World) (hp : p.size ≤ 2000000) (hb : b.size ≤ 2000000) (hp0 : 0 < p.size) (h0 : M.bz p 0 = 0) (hok : M.opOk b p 0 = false) :
    Calls Tryz.prog 200 #[.string b, .string p] w fun e w' => e = .returned firstNo ∧ Below w.heap.size w w' := by
  have hpm : p.size ≤ maxLen := by unfold maxLen; omega
  have hl : M.opLen p 0 = 3 := by simp [M.opLen, h0]
  have hno := notOk hok (by omega)
  rw [hl] at hno
  have HC : Hid (refNum p 1 < 0 ∨ refNum p 2 < 0 ∨ (b.size : Int) < refNum p 1 + refNum p 2) := by
    show _ ∨ _ ∨ _
    by_cases h3 : p.size < 3
    · rw [refNum_out (s := p) (i := 2) (by omega)]; omega
    · rw [refNum_in (s := p) (i := 1) (by omega), refNum_in (s := p) (i := 2) (by omega)]; omega
  have n0 := refNum_in (s := p) (i := 0) (by omega)
  obtain ⟨r1, r1'⟩ := refNum_bd p 1
  obtain ⟨r2, r2'⟩ := refNum_bd p 2
  clear hok hno hl
  go_enter Tryz.func200, Tryz.ntmps200
  go_wp2_with fail
  refine (refNumber_nat p 1 _ hpm).mono ?_
  rintro e w' ⟨rfl, rfl⟩
  go_wp2_with fail
  refine (refNumber_nat p 2 _ hpm).mono ?_
  rintro e w' ⟨rfl, rfl⟩
  go_wp2_with fail
  refine (refNumber_nat p 0 _ hpm).mono ?_
  rintro e w' ⟨rfl, rfl⟩
  rw [n0, h0]
  clear n0 h0
  generalize refNum p 1 = x at *
  generalize refNum p 2 = y at *
  go_wp2_with fail
  refine (taken_no b x y _ hb r1 (by omega) r2 (by omega) (unhide HC)).mono ?_
  rintro e w' ⟨rfl, rfl⟩
  go_wp2
  exact bodyPost_ret (v := firstNo) (by simp [results, Tryz.results200, go_sem, firstNo]) rfl ⟨rfl, Below.refl _ _⟩
theorem firstNo_one (b p : ByteArray) (w : World) (hp : p.size ≤ 2000000) (hp0 : 0 < p.size) (h0 : M.bz p 0 = 1) (hok : M.opOk b p 0 = false) :
    Calls Tryz.prog 200 #[.string b, .string p] w fun e w' => e = .returned firstNo ∧ Below w.heap.size w w' := by
  have hpm : p.size ≤ maxLen := by unfold maxLen; omega
  have hl : M.opLen p 0 = 2 + M.bz p 1 := by simp [M.opLen, h0]
  have hno := notOk hok (by omega)
  rw [hl] at hno
  have HC : Hid ((2 : Int) < 0 ∨ refNum p 1 < 0 ∨ (p.size : Int) < 2 + refNum p 1) := by
    show _ ∨ _ ∨ _
    by_cases h3 : p.size < 2
    · rw [refNum_out (s := p) (i := 1) (by omega)]; omega
    · rw [refNum_in (s := p) (i := 1) (by omega)]; omega
  have n0 := refNum_in (s := p) (i := 0) (by omega)
  obtain ⟨r1, r1'⟩ := refNum_bd p 1
  obtain ⟨r2, r2'⟩ := refNum_bd p 2
  clear hok hno hl
  go_enter Tryz.func200, Tryz.ntmps200
  go_wp2_with fail
  refine (refNumber_nat p 1 _ hpm).mono ?_
  rintro e w' ⟨rfl, rfl⟩
  go_wp2_with fail
  refine (refNumber_nat p 2 _ hpm).mono ?_
  rintro e w' ⟨rfl, rfl⟩
  go_wp2_with fail
  refine (refNumber_nat p 0 _ hpm).mono ?_
  rintro e w' ⟨rfl, rfl⟩
  rw [n0, h0]
  clear n0 h0
  generalize refNum p 1 = x at *
  generalize refNum p 2 = y at *
  go_wp2_with fail
  refine (taken_no p 2 x _ hp (by omega) (by omega) r1 (by omega) (unhide HC)).mono ?_
  rintro e w' ⟨rfl, rfl⟩
  go_wp2
  exact bodyPost_ret (v := firstNo) (by simp [results, Tryz.results200, go_sem, firstNo]) rfl ⟨rfl, Below.refl _ _⟩
theorem firstNo_two (b p : ByteArray) (w : World) (hp : p.size ≤ 2000000) (hp0 : 0 < p.size) (h0 : M.bz p 0 = 2) (hok : M.opOk b p 0 = false) :
    Calls Tryz.prog 200 #[.string b, .string p] w fun e w' => e = .returned firstNo ∧ Below w.heap.size w w' := by
  have hpm : p.size ≤ maxLen := by unfold maxLen; omega
  have hl : M.opLen p 0 = 3 := by simp [M.opLen, h0]
  have hno := notOk hok (by omega)
  rw [hl] at hno
  have n2 := refNum_out (s := p) (i := 2) (by omega)
  have n0 := refNum_in (s := p) (i := 0) (by omega)
  obtain ⟨r1, r1'⟩ := refNum_bd p 1
  clear hok hno hl
  go_enter Tryz.func200, Tryz.ntmps200
  go_wp2_with fail
  refine (refNumber_nat p 1 _ hpm).mono ?_
  rintro e w' ⟨rfl, rfl⟩
  go_wp2_with fail
  refine (refNumber_nat p 2 _ hpm).mono ?_
  rintro e w' ⟨rfl, rfl⟩
  rw [n2]
  go_wp2_with fail
  refine (refNumber_nat p 0 _ hpm).mono ?_
  rintro e w' ⟨rfl, rfl⟩
  rw [n0, h0]
  clear n0 h0 n2
  generalize refNum p 1 = x at *
  go_wp2
  exact bodyPost_ret (v := firstNo) (by simp [results, Tryz.results200, go_sem, firstNo]) rfl ⟨rfl, Below.refl _ _⟩
theorem firstNo_three (b p : ByteArray) (w : World) (hp : p.size ≤ 2000000) (hb : b.size ≤ 2000000) (hp0 : 0 < p.size) (h0 : M.bz p 0 = 3) (hok : M.opOk b p 0 = false) :
    Calls Tryz.prog 200 #[.string b, .string p] w fun e w' => e = .returned firstNo ∧ Below w.heap.size w w' := by
  have hpm : p.size ≤ maxLen := by unfold maxLen; omega
  have hl : M.opLen p 0 = 3 + M.bz p 2 := by simp [M.opLen, h0]
  have hno := notOk hok (by omega)
  rw [hl] at hno
  have HC : Hid (refNum p 1 < 0 ∨ refNum p 2 < 0 ∨ (b.size : Int) < refNum p 1 + refNum p 2 ∨ (p.size : Int) < 3 + refNum p 2) := by
    show _ ∨ _ ∨ _ ∨ _
    by_cases h3 : p.size < 3
    · rw [refNum_out (s := p) (i := 2) (by omega)]; omega
    · rw [refNum_in (s := p) (i := 1) (by omega), refNum_in (s := p) (i := 2) (by omega)]; omega
  have n0 := refNum_in (s := p) (i := 0) (by omega)
  obtain ⟨r1, r1'⟩ := refNum_bd p 1
  obtain ⟨r2, r2'⟩ := refNum_bd p 2
  clear hok hno hl
  go_enter Tryz.func200, Tryz.ntmps200
  go_wp2_with fail
  refine (refNumber_nat p 1 _ hpm).mono ?_
  rintro e w' ⟨rfl, rfl⟩
  go_wp2_with fail
  refine (refNumber_nat p 2 _ hpm).mono ?_
  rintro e w' ⟨rfl, rfl⟩
  go_wp2_with fail
  refine (refNumber_nat p 0 _ hpm).mono ?_
  rintro e w' ⟨rfl, rfl⟩
  rw [n0, h0]
  clear n0 h0
  generalize refNum p 1 = x at *
  generalize refNum p 2 = y at *
  by_cases hx : x < 0 ∨ y < 0 ∨ (b.size : Int) < x + y
  · go_wp2_with fail
    refine (taken_no b x y _ hb r1 (by omega) r2 (by omega) hx).mono ?_
    rintro e w' ⟨rfl, rfl⟩
    by_cases hy : y < 0 ∨ (p.size : Int) < 3 + y
    · have HY := hide hy
      clear hx hy
      go_wp2_with fail
      refine (taken_no p 3 y _ hp (by omega) (by omega) r2 (by omega) (.inr (unhide HY))).mono ?_
      rintro e w' ⟨rfl, rfl⟩
      go_wp2
      exact bodyPost_ret (v := firstNo) (by simp [results, Tryz.results200, go_sem, firstNo]) rfl ⟨rfl, Below.refl _ _⟩
    · obtain ⟨m, rfl⟩ := Int.eq_ofNat_of_zero_le (show 0 ≤ y by omega)
      have HY : Hid (3 + m ≤ p.size) := by show 3 + m ≤ p.size; omega
      clear hx hy
      go_wp2_with fail
      refine (taken_yes_at p _ _ 3 m _ hp (unhide HY) rfl rfl).mono ?_
      rintro e w' ⟨rfl, rfl⟩
      generalize (M.mk m fun j => M.bz p (3 + j)) = t at *
      go_wp2
      exact bodyPost_ret (v := firstNo) (by simp [results, Tryz.results200, go_sem, firstNo]) rfl ⟨rfl, Below.refl _ _⟩
  · have hc := HC.out
    have hy : (p.size : Int) < 3 + y := by omega
    obtain ⟨k, rfl⟩ := Int.eq_ofNat_of_zero_le (show 0 ≤ x by omega)
    obtain ⟨m, rfl⟩ := Int.eq_ofNat_of_zero_le (show 0 ≤ y by omega)
    have HX : Hid (k + m ≤ b.size) := by show k + m ≤ b.size; omega
    have HY := hide hy
    clear hx hc HC hy
    go_wp2_with fail
    refine (taken_yes b k m _ hb (unhide HX)).mono ?_
    rintro e w' ⟨rfl, rfl⟩
    generalize (M.mk m fun j => M.bz b (k + j)) = t at *
    go_wp2_with fail
    refine (taken_no p 3 m _ hp (by omega) (by omega) r2 (by omega) (.inr (.inr (unhide HY)))).mono ?_
    rintro e w' ⟨rfl, rfl⟩
    go_wp2
    exact bodyPost_ret (v := firstNo) (by simp [results, Tryz.results200, go_sem, firstNo]) rfl ⟨rfl, Below.refl _ _⟩
theorem firstNo_more (b p : ByteArray) (w : World) (hp : p.size ≤ 2000000) (hp0 : 0 < p.size) (h0 : 3 < M.bz p 0) :
    Calls Tryz.prog 200 #[.string b, .string p] w fun e w' => e = .returned firstNo ∧ Below w.heap.size w w' := by
  have hpm : p.size ≤ maxLen := by unfold maxLen; omega
  have n0 := refNum_in (s := p) (i := 0) (by omega)
  have b0 := M.bz_lt p 0
  go_enter Tryz.func200, Tryz.ntmps200
  go_wp2_with fail
  refine (refNumber_nat p 1 _ hpm).mono ?_
  rintro e w' ⟨rfl, rfl⟩
  go_wp2_with fail
  refine (refNumber_nat p 2 _ hpm).mono ?_
  rintro e w' ⟨rfl, rfl⟩
  go_wp2_with fail
  refine (refNumber_nat p 0 _ hpm).mono ?_
  rintro e w' ⟨rfl, rfl⟩
  rw [n0]
  clear n0
  generalize M.bz p 0 = z at *
  have k0 : ((z : Int) == 0) = false := by rw [beq_eq_false_iff_ne]; omega
  have k1 : ((z : Int) == 1) = false := by rw [beq_eq_false_iff_ne]; omega
  have k2 : ((z : Int) == 2) = false := by rw [beq_eq_false_iff_ne]; omega
  have k3 : ((z : Int) == 3) = false := by rw [beq_eq_false_iff_ne]; omega
  generalize refNum p 1 = x at *
  generalize refNum p 2 = y at *
  go_wp2
  exact bodyPost_ret (v := firstNo) (by simp [results, Tryz.results200, go_sem, firstNo]) rfl ⟨rfl, Below.refl _ _⟩
theorem first_yes (b p : ByteArray) (w : World) (hp : p.size ≤ 2000000) (hb : b.size ≤ 2000000) (hp0 : 0 < p.size) (hok : M.opOk b p 0 = true) :
    Calls Tryz.prog 200 #[.string b, .string p] w fun e w' => e = .returned (firstYes b p) ∧ Below w.heap.size w w' := by
  have h3 := M.opOk_what hok
  by_cases h0 : M.bz p 0 = 0
  · exact first_zero b p w hp hb hp0 h0 hok
  by_cases h1 : M.bz p 0 = 1
  · exact first_one b p w hp hb hp0 h1 hok
  by_cases h2 : M.bz p 0 = 2
  · exact first_two b p w hp hb hp0 h2 hok
  exact first_three b p w hp hb hp0 (by omega) hok
theorem first_no (b p : ByteArray) (w : World) (hp : p.size ≤ 2000000) (hb : b.size ≤ 2000000) (hp0 : 0 < p.size) (hok : M.opOk b p 0 = false) :
    Calls Tryz.prog 200 #[.string b, .string p] w fun e w' => e = .returned firstNo ∧ Below w.heap.size w w' := by
  by_cases h0 : M.bz p 0 = 0
  · exact firstNo_zero b p w hp hb hp0 h0 hok
  by_cases h1 : M.bz p 0 = 1
  · exact firstNo_one b p w hp hp0 h1 hok
  by_cases h2 : M.bz p 0 = 2
  · exact firstNo_two b p w hp hp0 h2 hok
  by_cases h3 : M.bz p 0 = 3
  · exact firstNo_three b p w hp hb hp0 h3 hok
  exact firstNo_more b p w hp hp0 (by omega)
end Go.Proofs.YtjfmiomopfjecabGreat

/- slotsref.Patch, and the law. -/
namespace Go.Proofs.YtjfmiomopfjecabGreat
open Go.RowKit Go.Lib

theorem text_ne {r : ByteArray} (h : 0 < r.size) : r.toList.isEmpty = false := by
  rw [ByteArray.toList_eq]
  have e : r.data.toList.length = r.size := by rw [Array.length_toList]; rfl
  cases hl : r.data.toList with
  | nil => rw [hl] at e; simp at e; omega
  | cons x l => rfl
theorem text_nil {r : ByteArray} (h : r.size = 0) : r = ⟨#[]⟩ := M.bz_ext (by rw [h]; rfl) (fun j hj => by omega)
set_option maxHeartbeats 400000 in
theorem refPatch_any (b p : ByteArray) (n : Int) (w : World) (hp : p.size ≤ 2000000) (hb : b.size ≤ 2000000) :
    Calls Tryz.prog 194 #[.string b, .string p, .int .i64 n] w fun e w' => e = .returned (.tuple #[.string (M.patchTxt b p n), .int .i64 (M.patchNum b p n)]) ∧ Below w.heap.size w w' := by
  have HS0 := hide (M.suf_zero p)
  go_enter Tryz.func194, Tryz.ntmps194
  go_wp2_with fail
  go_loopw [1, 8] (fun q v wr => ∃ (k : Nat) (o r : ByteArray), k ≤ p.size ∧ q = .string r ∧ v = .string o ∧ Hid (r = M.suf p k) ∧ Hid (M.goFrom b p k o = M.goFrom b p 0 ⟨#[]⟩) ∧ o.size ≤ 255 * k ∧ Below w.heap.size w wr) (fun q _ _ => match q with | .string r => r.size | _ => 0)
  case atStart => exact ⟨0, ⟨#[]⟩, p, by omega, rfl, rfl, HS0.out.symm, rfl, by show 0 ≤ _; omega, Below.refl _ _⟩
  case round =>
    obtain ⟨k, o, r, hk, rfl, rfl, hr, hgo, hz, hbel⟩ := hrel
    have hsz := hbel.size
    have HB := hide hbel
    have HRZ : Hid (r.size = p.size - k) := by rw [hr.out, M.suf_size]; rfl
    clear hbel
    by_cases hlt : k < p.size
    · have h0 : 0 < r.size := by rw [HRZ.out]; omega
      have hne := text_ne h0
      have hrz : r.size ≤ 2000000 := by rw [HRZ.out]; omega
      cases hok : M.opOk b p k
      · have HNO : Hid (M.opOk b r 0 = false) := by rw [hr.out, M.suf_ok b p k hlt]; exact hok
        have HEND := hide (txt_none (res_none (n := n) (hgo.out.symm.trans (M.goFrom_no hlt hok))))
        clear hok
        go_wp2_with fail
        refine (first_no b r _ hrz hb h0 (unhide HNO)).mono ?_
        rintro e w1 ⟨rfl, hb1⟩
        have HB1 := hide ((unhide HB).trans (hb1.mono hsz))
        unfold firstNo
        clear hb1
        go_wp2
        go_ret2
        exact ⟨ret_txt HEND.out, unhide HB1⟩
      · have HYES : Hid (M.opOk b r 0 = true) := by rw [hr.out, M.suf_ok b p k hlt]; exact hok
        have hle := M.opOk_le hok
        have hl2 := M.opLen_two p k
        have hc := M.opCount_le p k
        have HG : Hid (M.opGives b r 0 = M.opGives b p k) := by rw [hr.out, M.suf_gives]; rfl
        have HS : Hid (M.suf r (M.opLen r 0) = M.suf p (k + M.opLen p k)) := by rw [hr.out, M.suf_len, M.suf_suf]; rfl
        have HZ := hide (M.opGives_size b p k)
        have HNEW := hide ((M.goFrom_ok (o := o) hlt hok).symm.trans hgo.out)
        have HSZ := hide (M.suf_size p (k + M.opLen p k))
        clear hok
        go_wp2_with fail
        refine (first_yes b r _ hrz hb h0 (unhide HYES)).mono ?_
        rintro e w1 ⟨rfl, hb1⟩
        have HB1 := hide ((unhide HB).trans (hb1.mono hsz))
        clear hb1 HYES
        unfold firstYes
        rw [HG.out, HS.out]
        clear HG HS
        generalize M.opGives b p k = g at *
        generalize M.opCount p k = c at *
        generalize M.opLen p k = l at *
        have HT : Hid (M.suf p (k + l) = M.suf p (k + l)) := rfl
        have hgz : g.size ≤ 255 := by rw [HZ.out]; exact hc
        have HON : Hid ((o ++ g).size ≤ 255 * (k + l)) := by rw [ByteArray.size_append]; show _ ≤ _; omega
        generalize hS : M.suf p (k + l) = S at *
        have HS2 := hide hS
        clear hS
        go_wp2
        go_roundw
        case rel => exact ⟨k + l, o ++ g, S, by omega, rfl, rfl, HS2.out.symm, HNEW, unhide HON, unhide HB1⟩
        case measure => show S.size < r.size; rw [HSZ.out, HRZ.out]; omega
    · have hkn : k = p.size := by omega
      have e := text_nil (r := r) (by rw [HRZ.out]; omega)
      subst e
      have hG := hgo.out.symm.trans (M.goFrom_end (o := o) (by omega : p.size ≤ k))
      by_cases hn : (o.size : Int) = n
      · have HEND := hide (txt_some (res_some hG hn))
        have hne : ((o.size : Int) != n) = false := by rw [bne_eq_false_iff_eq]; exact hn
        clear hG hn
        go_wp2
        go_ret2
        exact ⟨ret_txt HEND.out, unhide HB⟩
      · have HEND := hide (txt_none (res_size hG hn))
        have hne : ((o.size : Int) != n) = true := by rw [bne_iff_ne]; exact hn
        clear hG hn
        go_wp2
        go_ret2
        exact ⟨ret_txt HEND.out, unhide HB⟩
theorem lawNum_any (n : Int) (w : World) : Calls Tryz.prog 63 #[.int .i64 n] w fun e w' => e = .returned (.int .i64 n) ∧ w = w' := by
  go_enter Tryz.func63, Tryz.ntmps63
  go_wp2
  go_ret
  exact ⟨rfl, rfl⟩
end Go.Proofs.YtjfmiomopfjecabGreat

/- The document's device: the new image, or why there is none. -/
namespace Go.Proofs.YtjfmiomopfjecabGreat
open Go.RowKit Go.Lib

theorem ret_built {a b : ByteArray} {m n : Int} (h : a = b) (k : m = n) : Ending.returned (.tuple #[.string a, .int .i64 m]) = .returned (.tuple #[.string b, .int .i64 n]) := by rw [h, k]
/-- the example's lengths, where there is one -/
theorem seal_shown {g : Nat → Nat} {a : Nat} (h : M.sealOf g 48 = some a) (h1 : g (8 + 2 * M.chunksN (g 4)) = 1) : a = 11 + 2 * M.chunksN (g 4) + g (9 + 2 * M.chunksN (g 4)) + g (10 + 2 * M.chunksN (g 4)) ∧ g (9 + 2 * M.chunksN (g 4)) ≤ 8 ∧ g (10 + 2 * M.chunksN (g 4)) ≤ 8 := by
  unfold M.sealOf at h
  split at h
  · cases h
  split at h
  · cases h
  rw [if_neg (by omega)] at h
  split at h
  · cases h
  · rename_i hh
    have := Option.some.inj h
    omega
theorem mf_part {F : Nat → Nat} (hF : ∀ j, F j < 256) {a x n : Nat} (h : x + n ≤ a + 2) : (manT F a).extract x (x + n) = M.mk n fun j => M.mf F (x + j) := by
  rw [M.extract_mk _ _ _ (by rw [M.mk_size]; exact h)]
  exact M.mk_congr fun j hj => M.bz_mk (fun j _ => mf_bytes hF j) (by omega)
theorem patch_part {F : Nat → Nat} (hF : ∀ j, F j < 256) {n : Nat} (h : n ≤ 96) : (M.mk 368 F).extract 80 (80 + n) = M.mk n fun j => F (80 + j) := by
  rw [M.extract_mk _ _ _ (by rw [M.mk_size]; omega)]
  exact M.mk_congr fun j hj => M.bz_mk (fun j _ => hF j) (by omega)
section
variable {X : World} {g q : Nat} {d : M.Dev}
set_option maxRecDepth 10000 in
set_option maxHeartbeats 4000000 in
theorem refBuilt_any (hI : M.Inv' d) (hR : RefAt X g d) {a : Nat} (ha : M.sealOf (M.mf d.F) 48 = some a) :
    Calls Tryz.prog 178 #[.pointer (some ⟨g, 0, none⟩)] X fun e w' => e = .returned (.tuple #[.string (M.builtN d.F).2, .int .i64 (M.builtN d.F).1]) ∧ Below X.heap.size X w' := by
  have hF := hI.2.1.bytes
  have hk1 := hI.2.1.kept
  have hle := M.sealOf_le ha
  have hlen : M.fld d.F (4 + M.fld d.F 1) ≤ 96 := by
    have hc : M.fld d.F 1 = 0 ∨ M.fld d.F 1 = 1 := by omega
    rcases hc with e | e <;> rw [e]
    · exact hI.2.1.len0
    · exact hI.2.1.len1
  have HM := hide (refMan_any hR hF ha)
  have hz : (manT d.F a).size = a + 2 := M.mk_size _ _
  have hzm : (manT d.F a).size ≤ maxLen := by rw [hz]; unfold maxLen; omega
  have hbz : ∀ i, i < a + 2 → M.bz (manT d.F a) i = M.mf d.F i := fun i hi => M.bz_mk (fun j _ => mf_bytes hF j) hi
  have HNU : Hid (∀ (w : World) (k : Int) (i : Nat), k = i → i < a + 2 → Calls Tryz.prog 117 #[.string (manT d.F a), .int .i64 k] w fun e w' => e = .returned (.int .i64 (M.mf d.F i)) ∧ w = w') := by
    rintro w k i rfl hi
    have := refNumber_in (manT d.F a) i w hzm (by omega) (by rw [hz]; omega)
    rw [Int.toNat_natCast, hbz i hi] at this
    exact this
  have HC := hide (fun w => refChunks_any (manT d.F a) w (by rw [hz]; omega) hzm)
  rw [hbz 4 (by omega)] at HC
  have hc6 : M.chunksN (M.mf d.F 4) ≤ 6 := by unfold M.chunksN; omega
  have HW6 : Hid (∀ w : World, Calls Tryz.prog 147 #[.string (manT d.F a), .int .i64 6] w fun e w' => e = .returned (.int .i64 ((M.mf d.F 6 * 256 + M.mf d.F 7 : Nat) : Int)) ∧ w = w') := by
    intro w
    have hr := refWord_any (manT d.F a) 6 w hzm (by omega) (by rw [hz]; omega)
    refine hr.mono fun e w' hh => ⟨hh.1.trans (ret_int ?_), hh.2⟩
    show (M.bz (manT d.F a) 6 : Int) * 256 + (M.bz (manT d.F a) 7 : Int) = _
    rw [hbz 6 (by omega), hbz 7 (by omega)]
    omega
  have H1 : Hid (∀ Y : World, RefAt Y g d → Calls Tryz.prog 93 #[.pointer (some ⟨g, 0, none⟩), .int .i64 1] Y fun e w' => e = .returned (.int .i64 (M.fld d.F 1)) ∧ Y = w') := fun Y hY => refField_any hY hF 1 (by omega)
  have HIM := hide (fun (Y : World) (hY : RefAt Y g d) => refImg_any hY hF (M.fld d.F 1) hk1 hlen)
  have HPP := hide (patch_part hF (n := M.mf d.F 4) (by omega))
  have hzb : (M.imgOf d.F (M.fld d.F 1)).size ≤ 96 := by unfold M.imgOf; rw [M.mk_size]; exact hlen
  have hzp : (M.mk (M.mf d.F 4) fun j => d.F (80 + j)).size ≤ 96 := by rw [M.mk_size]; omega
  have HPT := hide (fun w => refPatch_any (M.imgOf d.F (M.fld d.F 1)) (M.mk (M.mf d.F 4) fun j => d.F (80 + j)) (M.mf d.F 5) w (by omega) (by omega))
  have HBO : Hid (M.builtN d.F = if M.patchNum (M.imgOf d.F (M.fld d.F 1)) (M.mk (M.mf d.F 4) fun j => d.F (80 + j)) (M.mf d.F 5) ≠ 0 then (4, ⟨#[]⟩)
    else if M.crc (M.patchTxt (M.imgOf d.F (M.fld d.F 1)) (M.mk (M.mf d.F 4) fun j => d.F (80 + j)) (M.mf d.F 5)).data.toList ≠ M.mf d.F 6 * 256 + M.mf d.F 7 then (15, ⟨#[]⟩)
    else if M.isImage (M.patchTxt (M.imgOf d.F (M.fld d.F 1)) (M.mk (M.mf d.F 4) fun j => d.F (80 + j)) (M.mf d.F 5)) = false then (1, ⟨#[]⟩)
    else if M.mf d.F (8 + 2 * M.chunksN (M.mf d.F 4)) = 1 ∧ (evalNum (M.patchTxt (M.imgOf d.F (M.fld d.F 1)) (M.mk (M.mf d.F 4) fun j => d.F (80 + j)) (M.mf d.F 5)) (M.mk (M.mf d.F (8 + 2 * M.chunksN (M.mf d.F 4) + 1)) fun j => M.mf d.F (8 + 2 * M.chunksN (M.mf d.F 4) + 3 + j)) ≠ 0 ∨ evalTxt (M.patchTxt (M.imgOf d.F (M.fld d.F 1)) (M.mk (M.mf d.F 4) fun j => d.F (80 + j)) (M.mf d.F 5)) (M.mk (M.mf d.F (8 + 2 * M.chunksN (M.mf d.F 4) + 1)) fun j => M.mf d.F (8 + 2 * M.chunksN (M.mf d.F 4) + 3 + j)) ≠ M.mk (M.mf d.F (8 + 2 * M.chunksN (M.mf d.F 4) + 2)) fun j => M.mf d.F (8 + 2 * M.chunksN (M.mf d.F 4) + 3 + M.mf d.F (8 + 2 * M.chunksN (M.mf d.F 4) + 1) + j)) then (16, ⟨#[]⟩)
    else (0, M.patchTxt (M.imgOf d.F (M.fld d.F 1)) (M.mk (M.mf d.F 4) fun j => d.F (80 + j)) (M.mf d.F 5))) := rfl
  have hxf := hR.flashC
  have hzf := M.mk_size 368 d.F
  have h4 : M.mf d.F 4 ≤ 96 := hle.2.2.2.1
  have h5 : M.mf d.F 5 ≤ 96 := by omega
  have HRF := hide hR
  have h1e := fun hh => seal_shown ha hh
  have hmp := fun (x n : Nat) (hh : x + n ≤ a + 2) => mf_part hF (a := a) (x := x) (n := n) hh
  have hbA := mf_bytes hF (8 + 2 * M.chunksN (M.mf d.F 4))
  have ha9 := hle.2.1
  have ha39 := hle.1
  clear hI hR hF ha hbz hlen hle hzm
  generalize M.builtN d.F = BO at *
  have hxf' : X.cell? ⟨g, 1, none⟩ = some (.string (M.mk 368 d.F)) := hxf
  clear hxf
  generalize M.mk 368 d.F = FL at *
  generalize M.imgOf d.F (M.fld d.F 1) = B at *
  generalize M.fld d.F 1 = f1 at *
  generalize (M.mk (M.mf d.F 4) fun j => d.F (80 + j)) = P at *
  have hw80 : IntKind.i64.wrap (80 + (M.mf d.F 4 : Int)) = 80 + (M.mf d.F 4 : Int) := IntWalk.i64_in _ ⟨by omega, by omega⟩
  have i80 : (80 : Int) ≤ 80 + (M.mf d.F 4 : Int) := by omega
  have i80' : (80 : Int) + (M.mf d.F 4 : Int) ≤ (FL.size : Int) := by omega
  cases hres : M.patchRes B P (M.mf d.F 5 : Int) with
  | none =>
    have e1 : M.patchTxt B P (M.mf d.F 5 : Int) = ⟨#[]⟩ := by unfold M.patchTxt; rw [hres]; rfl
    have e2 : M.patchNum B P (M.mf d.F 5 : Int) = 4 := by unfold M.patchNum; rw [hres]; rfl
    rw [e1, e2] at HPT
    rw [e2] at HBO
    have HB0 : Hid (BO = (4, ⟨#[]⟩)) := HBO.out.trans (if_pos (by decide))
    clear HBO e1 e2 hres
    go_enter Tryz.func178, Tryz.ntmps178
    (go_wp2_with fail); (refine (unhide HM).mono ?_); (rintro e w' ⟨rfl, rfl⟩)
    go_wp2_with fail
    go_quiet ((go_at_call 117; exact Calls.quiet_of_same ((unhide HNU _ _ 4 rfl (by omega)).mono fun e w' hh => ⟨hh.1, hh.2.symm⟩)))
    go_wp2_with fail
    rw [HPP.out]
    with_reducible refine (unhide H1 _ ((unhide HRF).kept (below_drewN (Below.refl _ _) _))).mono ?_
    rintro e _ ⟨rfl, rfl⟩
    go_wp2_with fail
    with_reducible refine (unhide HIM _ ((unhide HRF).kept (below_drewN (Below.refl _ _) _))).mono ?_
    rintro e _ ⟨rfl, rfl⟩
    go_wp2_with fail
    refine (unhide HNU _ _ 5 rfl (by omega)).mono ?_
    rintro e _ ⟨rfl, rfl⟩
    go_wp2_with fail
    with_reducible refine (unhide HPT _).mono ?_
    rintro e w1 ⟨rfl, hb1⟩
    have HB1 := hide ((below_drewN (Below.refl X.heap.size X) nq).trans hb1)
    have hs1 := (unhide HB1).size
    clear hb1
    go_wp2
    go_ret2
    exact ⟨ret_built (by rw [HB0.out]) (by rw [HB0.out]; rfl), unhide HB1⟩
  | some o =>
    have e1 : M.patchTxt B P (M.mf d.F 5 : Int) = o := by unfold M.patchTxt; rw [hres]; rfl
    have e2 : M.patchNum B P (M.mf d.F 5 : Int) = 0 := by unfold M.patchNum; rw [hres]; rfl
    have hos := res_len hres
    rw [e1, e2] at HPT
    rw [e1, e2] at HBO
    have HBO1 := hide (HBO.out.trans (if_neg (by decide)))
    clear HBO e1 e2 hres
    have HSU := hide (fun w => refSum_any o w (by omega))
    have HIO := hide (fun w => refImage_any o w (by unfold maxLen; omega))
    generalize M.mf d.F 6 * 256 + M.mf d.F 7 = wd at *
    by_cases cw : M.crc o.data.toList = wd
    · have HBO2 := hide (HBO1.out.trans (if_neg (fun hh => hh cw)))
      clear HBO1
      rw [cw] at HSU
      clear cw
      cases him : M.isImage o with
      | false =>
        have HB0 : Hid (BO = (1, ⟨#[]⟩)) := HBO2.out.trans (if_pos him)
        clear HBO2
        rw [him] at HIO
        go_enter Tryz.func178, Tryz.ntmps178
        (go_wp2_with fail); (refine (unhide HM).mono ?_); (rintro e w' ⟨rfl, rfl⟩)
        go_wp2_with fail
        go_quiet ((go_at_call 117; exact Calls.quiet_of_same ((unhide HNU _ _ 4 rfl (by omega)).mono fun e w' hh => ⟨hh.1, hh.2.symm⟩)))
        go_wp2_with fail
        rw [HPP.out]
        with_reducible refine (unhide H1 _ ((unhide HRF).kept (below_drewN (Below.refl _ _) _))).mono ?_
        rintro e _ ⟨rfl, rfl⟩
        go_wp2_with fail
        with_reducible refine (unhide HIM _ ((unhide HRF).kept (below_drewN (Below.refl _ _) _))).mono ?_
        rintro e _ ⟨rfl, rfl⟩
        go_wp2_with fail
        refine (unhide HNU _ _ 5 rfl (by omega)).mono ?_
        rintro e _ ⟨rfl, rfl⟩
        go_wp2_with fail
        with_reducible refine (unhide HPT _).mono ?_
        rintro e w1 ⟨rfl, hb1⟩
        have HB1 := hide ((below_drewN (Below.refl X.heap.size X) nq).trans hb1)
        have hs1 := (unhide HB1).size
        clear hb1
        go_wp2_with fail
        refine (unhide HSU _).mono ?_
        rintro e w2 ⟨rfl, hb2⟩
        have HB2 := hide ((unhide HB1).trans (hb2.mono hs1))
        have hs2 := (unhide HB2).size
        clear hb2
        (go_wp2_with fail); (refine (unhide HW6 _).mono ?_); (rintro e w' ⟨rfl, rfl⟩)
        (go_wp2_with fail); (refine (unhide HIO _).mono ?_); (rintro e w' ⟨rfl, rfl⟩)
        go_wp2
        go_ret2
        exact ⟨ret_built (by rw [HB0.out]) (by rw [HB0.out]; rfl), unhide HB2⟩
      | true =>
        have HBO3 := hide (HBO2.out.trans (if_neg (by rw [him]; decide)))
        clear HBO2
        rw [him] at HIO
        by_cases ce : M.mf d.F (8 + 2 * M.chunksN (M.mf d.F 4)) = 1
        · obtain ⟨hae, h9, h10⟩ := h1e ce
          have n9 : 8 + 2 * M.chunksN (M.mf d.F 4) + 1 = 9 + 2 * M.chunksN (M.mf d.F 4) := by omega
          have n10 : 8 + 2 * M.chunksN (M.mf d.F 4) + 2 = 10 + 2 * M.chunksN (M.mf d.F 4) := by omega
          rw [n9, n10] at HBO3
          have hQ := hmp (8 + 2 * M.chunksN (M.mf d.F 4) + 3) (M.mf d.F (9 + 2 * M.chunksN (M.mf d.F 4))) (by omega)
          have hA := hmp (8 + 2 * M.chunksN (M.mf d.F 4) + 3 + M.mf d.F (9 + 2 * M.chunksN (M.mf d.F 4))) (M.mf d.F (10 + 2 * M.chunksN (M.mf d.F 4))) (by omega)
          have hzq : (M.mk (M.mf d.F (9 + 2 * M.chunksN (M.mf d.F 4))) fun j => M.mf d.F (8 + 2 * M.chunksN (M.mf d.F 4) + 3 + j)).size ≤ 8 := by rw [M.mk_size]; exact h9
          have HEV := hide (fun w => refEval_any o (M.mk (M.mf d.F (9 + 2 * M.chunksN (M.mf d.F 4))) fun j => M.mf d.F (8 + 2 * M.chunksN (M.mf d.F 4) + 3 + j)) w (by unfold maxLen; omega) (by unfold maxLen; omega))
          generalize evalNum o (M.mk (M.mf d.F (9 + 2 * M.chunksN (M.mf d.F 4))) fun j => M.mf d.F (8 + 2 * M.chunksN (M.mf d.F 4) + 3 + j)) = en at *
          generalize evalTxt o (M.mk (M.mf d.F (9 + 2 * M.chunksN (M.mf d.F 4))) fun j => M.mf d.F (8 + 2 * M.chunksN (M.mf d.F 4) + 3 + j)) = et at *
          generalize (M.mk (M.mf d.F (9 + 2 * M.chunksN (M.mf d.F 4))) fun j => M.mf d.F (8 + 2 * M.chunksN (M.mf d.F 4) + 3 + j)) = QT at *
          generalize (M.mk (M.mf d.F (10 + 2 * M.chunksN (M.mf d.F 4))) fun j => M.mf d.F (8 + 2 * M.chunksN (M.mf d.F 4) + 3 + M.mf d.F (9 + 2 * M.chunksN (M.mf d.F 4)) + j)) = AT at *
          have HQ := hide hQ
          have HA := hide hA
          have HN1 : Hid (∀ (w : World) (k : Int), k = 8 + 2 * (M.chunksN (M.mf d.F 4) : Int) → Calls Tryz.prog 117 #[.string (manT d.F a), .int .i64 k] w fun e w' => e = .returned (.int .i64 1) ∧ w = w') := by
            intro w k hk
            have := unhide HNU w k (8 + 2 * M.chunksN (M.mf d.F 4)) (by omega) (by omega)
            rw [ce] at this
            exact this
          have HN2 : Hid (∀ (w : World) (k : Int), k = 8 + 2 * (M.chunksN (M.mf d.F 4) : Int) + 1 → Calls Tryz.prog 117 #[.string (manT d.F a), .int .i64 k] w fun e w' => e = .returned (.int .i64 (M.mf d.F (9 + 2 * M.chunksN (M.mf d.F 4)))) ∧ w = w') := fun w k hk => unhide HNU w k (9 + 2 * M.chunksN (M.mf d.F 4)) (by omega) (by omega)
          have hzm2 : (manT d.F a).size = 13 + 2 * M.chunksN (M.mf d.F 4) + M.mf d.F (9 + 2 * M.chunksN (M.mf d.F 4)) + M.mf d.F (10 + 2 * M.chunksN (M.mf d.F 4)) := by rw [hz]; omega
          have ha5 : 5 ≤ a := by omega
          clear hQ hA h1e hmp ha9 hae hz hbA ha39
          generalize manT d.F a = Tm at *
          generalize M.mf d.F (9 + 2 * M.chunksN (M.mf d.F 4)) = qn at *
          generalize M.mf d.F (10 + 2 * M.chunksN (M.mf d.F 4)) = an at *
          generalize M.chunksN (M.mf d.F 4) = c at *
          have ic1 : (0 : Int) ≤ 8 + 2 * (c : Int) + 3 := by omega
          have ic2 : 8 + 2 * (c : Int) + 3 ≤ 8 + 2 * (c : Int) + 3 + (qn : Int) := by omega
          have ic3 : 8 + 2 * (c : Int) + 3 + (qn : Int) ≤ (Tm.size : Int) := by omega
          have hzm3 : Tm.size ≤ 60 := by omega
          have HZM := hide hzm2
          clear hzm2
          have ic4 : (2 : Int) ≤ (Tm.size : Int) := by have := HZM.out; omega
          have ic5 : 8 + 2 * (c : Int) + 3 + (qn : Int) ≤ (Tm.size : Int) - 2 := by have := HZM.out; omega
          have ic6 : (0 : Int) ≤ 8 + 2 * (c : Int) + 3 + (qn : Int) := by omega
          have ic7 : (Tm.size : Int) - 2 ≤ (Tm.size : Int) := by omega
          have hX : Tm.extract (8 + 2 * c + 3 + qn) (Tm.size - 2) = AT := by
            have := HZM.out
            rw [show Tm.size - 2 = 8 + 2 * c + 3 + qn + an from by omega]
            exact HA.out
          by_cases h0 : en = 0
          · subst h0
            by_cases h1 : et = AT
            · subst h1
              have HB0 : Hid (BO = (0, o)) := HBO3.out.trans (if_neg (by rintro ⟨_, hh | hh⟩ <;> exact hh rfl))
              clear HBO3
              go_enter Tryz.func178, Tryz.ntmps178
              (go_wp2_with fail); (refine (unhide HM).mono ?_); (rintro e w' ⟨rfl, rfl⟩)
              go_wp2_with fail
              go_quiet ((go_at_call 117; exact Calls.quiet_of_same ((unhide HNU _ _ 4 rfl (by omega)).mono fun e w' hh => ⟨hh.1, hh.2.symm⟩)))
              go_wp2_with fail
              rw [HPP.out]
              with_reducible refine (unhide H1 _ ((unhide HRF).kept (below_drewN (Below.refl _ _) _))).mono ?_
              rintro e _ ⟨rfl, rfl⟩
              go_wp2_with fail
              with_reducible refine (unhide HIM _ ((unhide HRF).kept (below_drewN (Below.refl _ _) _))).mono ?_
              rintro e _ ⟨rfl, rfl⟩
              go_wp2_with fail
              refine (unhide HNU _ _ 5 rfl (by omega)).mono ?_
              rintro e _ ⟨rfl, rfl⟩
              go_wp2_with fail
              with_reducible refine (unhide HPT _).mono ?_
              rintro e w1 ⟨rfl, hb1⟩
              have HB1 := hide ((below_drewN (Below.refl X.heap.size X) nq).trans hb1)
              have hs1 := (unhide HB1).size
              clear hb1
              go_wp2_with fail
              refine (unhide HSU _).mono ?_
              rintro e w2 ⟨rfl, hb2⟩
              have HB2 := hide ((unhide HB1).trans (hb2.mono hs1))
              have hs2 := (unhide HB2).size
              clear hb2
              (go_wp2_with fail); (refine (unhide HW6 _).mono ?_); (rintro e w' ⟨rfl, rfl⟩)
              (go_wp2_with fail); (refine (unhide HIO _).mono ?_); (rintro e w' ⟨rfl, rfl⟩)
              (go_wp2_with fail); (refine (unhide HC _).mono ?_); (rintro e w' ⟨rfl, rfl⟩)
              (go_wp2_with fail); (refine (unhide HN1 _ _ (by omega)).mono ?_); (rintro e w' ⟨rfl, rfl⟩)
              (go_wp2_with fail); (refine (unhide HN2 _ _ (by omega)).mono ?_); (rintro e w' ⟨rfl, rfl⟩)
              go_wp2_with fail
              rw [HQ.out]
              with_reducible refine (unhide HEV _).mono ?_
              rintro e w3 ⟨rfl, hb3⟩
              have HB3 := hide ((unhide HB2).trans (hb3.mono hs2))
              clear hb3
              go_wp2
              go_ret2
              exact ⟨ret_built (by rw [HB0.out]) (by rw [HB0.out]; rfl), unhide HB3⟩
            · have HB0 : Hid (BO = (16, ⟨#[]⟩)) := HBO3.out.trans (if_pos ⟨ce, .inr h1⟩)
              clear HBO3
              have hne : ¬ et.toList = AT.toList := fun e => h1 (text_inj e)
              have hne2 : (et.toList == AT.toList) = false := by simp [hne]
              go_enter Tryz.func178, Tryz.ntmps178
              (go_wp2_with fail); (refine (unhide HM).mono ?_); (rintro e w' ⟨rfl, rfl⟩)
              go_wp2_with fail
              go_quiet ((go_at_call 117; exact Calls.quiet_of_same ((unhide HNU _ _ 4 rfl (by omega)).mono fun e w' hh => ⟨hh.1, hh.2.symm⟩)))
              go_wp2_with fail
              rw [HPP.out]
              with_reducible refine (unhide H1 _ ((unhide HRF).kept (below_drewN (Below.refl _ _) _))).mono ?_
              rintro e _ ⟨rfl, rfl⟩
              go_wp2_with fail
              with_reducible refine (unhide HIM _ ((unhide HRF).kept (below_drewN (Below.refl _ _) _))).mono ?_
              rintro e _ ⟨rfl, rfl⟩
              go_wp2_with fail
              refine (unhide HNU _ _ 5 rfl (by omega)).mono ?_
              rintro e _ ⟨rfl, rfl⟩
              go_wp2_with fail
              with_reducible refine (unhide HPT _).mono ?_
              rintro e w1 ⟨rfl, hb1⟩
              have HB1 := hide ((below_drewN (Below.refl X.heap.size X) nq).trans hb1)
              have hs1 := (unhide HB1).size
              clear hb1
              go_wp2_with fail
              refine (unhide HSU _).mono ?_
              rintro e w2 ⟨rfl, hb2⟩
              have HB2 := hide ((unhide HB1).trans (hb2.mono hs1))
              have hs2 := (unhide HB2).size
              clear hb2
              (go_wp2_with fail); (refine (unhide HW6 _).mono ?_); (rintro e w' ⟨rfl, rfl⟩)
              (go_wp2_with fail); (refine (unhide HIO _).mono ?_); (rintro e w' ⟨rfl, rfl⟩)
              (go_wp2_with fail); (refine (unhide HC _).mono ?_); (rintro e w' ⟨rfl, rfl⟩)
              (go_wp2_with fail); (refine (unhide HN1 _ _ (by omega)).mono ?_); (rintro e w' ⟨rfl, rfl⟩)
              (go_wp2_with fail); (refine (unhide HN2 _ _ (by omega)).mono ?_); (rintro e w' ⟨rfl, rfl⟩)
              go_wp2_with fail
              rw [HQ.out]
              with_reducible refine (unhide HEV _).mono ?_
              rintro e w3 ⟨rfl, hb3⟩
              have HB3 := hide ((unhide HB2).trans (hb3.mono hs2))
              clear hb3
              go_wp2
              go_ret2
              exact ⟨ret_built (by rw [HB0.out]) (by rw [HB0.out]; rfl), unhide HB3⟩
          · have HB0 : Hid (BO = (16, ⟨#[]⟩)) := HBO3.out.trans (if_pos ⟨ce, .inl h0⟩)
            clear HBO3
            go_enter Tryz.func178, Tryz.ntmps178
            (go_wp2_with fail); (refine (unhide HM).mono ?_); (rintro e w' ⟨rfl, rfl⟩)
            go_wp2_with fail
            go_quiet ((go_at_call 117; exact Calls.quiet_of_same ((unhide HNU _ _ 4 rfl (by omega)).mono fun e w' hh => ⟨hh.1, hh.2.symm⟩)))
            go_wp2_with fail
            rw [HPP.out]
            with_reducible refine (unhide H1 _ ((unhide HRF).kept (below_drewN (Below.refl _ _) _))).mono ?_
            rintro e _ ⟨rfl, rfl⟩
            go_wp2_with fail
            with_reducible refine (unhide HIM _ ((unhide HRF).kept (below_drewN (Below.refl _ _) _))).mono ?_
            rintro e _ ⟨rfl, rfl⟩
            go_wp2_with fail
            refine (unhide HNU _ _ 5 rfl (by omega)).mono ?_
            rintro e _ ⟨rfl, rfl⟩
            go_wp2_with fail
            with_reducible refine (unhide HPT _).mono ?_
            rintro e w1 ⟨rfl, hb1⟩
            have HB1 := hide ((below_drewN (Below.refl X.heap.size X) nq).trans hb1)
            have hs1 := (unhide HB1).size
            clear hb1
            go_wp2_with fail
            refine (unhide HSU _).mono ?_
            rintro e w2 ⟨rfl, hb2⟩
            have HB2 := hide ((unhide HB1).trans (hb2.mono hs1))
            have hs2 := (unhide HB2).size
            clear hb2
            (go_wp2_with fail); (refine (unhide HW6 _).mono ?_); (rintro e w' ⟨rfl, rfl⟩)
            (go_wp2_with fail); (refine (unhide HIO _).mono ?_); (rintro e w' ⟨rfl, rfl⟩)
            (go_wp2_with fail); (refine (unhide HC _).mono ?_); (rintro e w' ⟨rfl, rfl⟩)
            (go_wp2_with fail); (refine (unhide HN1 _ _ (by omega)).mono ?_); (rintro e w' ⟨rfl, rfl⟩)
            (go_wp2_with fail); (refine (unhide HN2 _ _ (by omega)).mono ?_); (rintro e w' ⟨rfl, rfl⟩)
            go_wp2_with fail
            rw [HQ.out]
            with_reducible refine (unhide HEV _).mono ?_
            rintro e w3 ⟨rfl, hb3⟩
            have HB3 := hide ((unhide HB2).trans (hb3.mono hs2))
            clear hb3
            go_wp2
            go_ret2
            exact ⟨ret_built (by rw [HB0.out]) (by rw [HB0.out]; rfl), unhide HB3⟩
        · have HB0 : Hid (BO = (0, o)) := HBO3.out.trans (if_neg (fun hh => ce hh.1))
          clear HBO3
          have HN1 : Hid (∀ (w : World) (k : Int), k = 8 + 2 * (M.chunksN (M.mf d.F 4) : Int) → Calls Tryz.prog 117 #[.string (manT d.F a), .int .i64 k] w fun e w' => e = .returned (.int .i64 (M.mf d.F (8 + 2 * M.chunksN (M.mf d.F 4)))) ∧ w = w') := fun w k hk => unhide HNU w k _ (by omega) (by omega)
          generalize M.mf d.F (8 + 2 * M.chunksN (M.mf d.F 4)) = fx at *
          generalize M.chunksN (M.mf d.F 4) = c at *
          have ce' : ¬ (fx : Int) = 1 := by omega
          go_enter Tryz.func178, Tryz.ntmps178
          (go_wp2_with fail); (refine (unhide HM).mono ?_); (rintro e w' ⟨rfl, rfl⟩)
          go_wp2_with fail
          go_quiet ((go_at_call 117; exact Calls.quiet_of_same ((unhide HNU _ _ 4 rfl (by omega)).mono fun e w' hh => ⟨hh.1, hh.2.symm⟩)))
          go_wp2_with fail
          rw [HPP.out]
          with_reducible refine (unhide H1 _ ((unhide HRF).kept (below_drewN (Below.refl _ _) _))).mono ?_
          rintro e _ ⟨rfl, rfl⟩
          go_wp2_with fail
          with_reducible refine (unhide HIM _ ((unhide HRF).kept (below_drewN (Below.refl _ _) _))).mono ?_
          rintro e _ ⟨rfl, rfl⟩
          go_wp2_with fail
          refine (unhide HNU _ _ 5 rfl (by omega)).mono ?_
          rintro e _ ⟨rfl, rfl⟩
          go_wp2_with fail
          with_reducible refine (unhide HPT _).mono ?_
          rintro e w1 ⟨rfl, hb1⟩
          have HB1 := hide ((below_drewN (Below.refl X.heap.size X) nq).trans hb1)
          have hs1 := (unhide HB1).size
          clear hb1
          go_wp2_with fail
          refine (unhide HSU _).mono ?_
          rintro e w2 ⟨rfl, hb2⟩
          have HB2 := hide ((unhide HB1).trans (hb2.mono hs1))
          have hs2 := (unhide HB2).size
          clear hb2
          (go_wp2_with fail); (refine (unhide HW6 _).mono ?_); (rintro e w' ⟨rfl, rfl⟩)
          (go_wp2_with fail); (refine (unhide HIO _).mono ?_); (rintro e w' ⟨rfl, rfl⟩)
          (go_wp2_with fail); (refine (unhide HC _).mono ?_); (rintro e w' ⟨rfl, rfl⟩)
          (go_wp2_with fail); (refine (unhide HN1 _ _ (by omega)).mono ?_); (rintro e w' ⟨rfl, rfl⟩)
          go_wp2
          go_ret2
          exact ⟨ret_built (by rw [HB0.out]) (by rw [HB0.out]; rfl), unhide HB2⟩
    · have HB0 : Hid (BO = (15, ⟨#[]⟩)) := HBO1.out.trans (if_pos cw)
      clear HBO1
      generalize M.crc o.data.toList = sm at *
      have cw' : ¬ (sm : Int) = (wd : Int) := by omega
      have cw2 : ((sm : Int) == (wd : Int)) = false := by simp [cw']
      have cw3 : ((sm : Int) != (wd : Int)) = true := by simp [cw']
      go_enter Tryz.func178, Tryz.ntmps178
      (go_wp2_with fail); (refine (unhide HM).mono ?_); (rintro e w' ⟨rfl, rfl⟩)
      go_wp2_with fail
      go_quiet ((go_at_call 117; exact Calls.quiet_of_same ((unhide HNU _ _ 4 rfl (by omega)).mono fun e w' hh => ⟨hh.1, hh.2.symm⟩)))
      go_wp2_with fail
      rw [HPP.out]
      with_reducible refine (unhide H1 _ ((unhide HRF).kept (below_drewN (Below.refl _ _) _))).mono ?_
      rintro e _ ⟨rfl, rfl⟩
      go_wp2_with fail
      with_reducible refine (unhide HIM _ ((unhide HRF).kept (below_drewN (Below.refl _ _) _))).mono ?_
      rintro e _ ⟨rfl, rfl⟩
      go_wp2_with fail
      refine (unhide HNU _ _ 5 rfl (by omega)).mono ?_
      rintro e _ ⟨rfl, rfl⟩
      go_wp2_with fail
      with_reducible refine (unhide HPT _).mono ?_
      rintro e w1 ⟨rfl, hb1⟩
      have HB1 := hide ((below_drewN (Below.refl X.heap.size X) nq).trans hb1)
      have hs1 := (unhide HB1).size
      clear hb1
      go_wp2_with fail
      refine (unhide HSU _).mono ?_
      rintro e w2 ⟨rfl, hb2⟩
      have HB2 := hide ((unhide HB1).trans (hb2.mono hs1))
      have hs2 := (unhide HB2).size
      clear hb2
      (go_wp2_with fail); (refine (unhide HW6 _).mono ?_); (rintro e w' ⟨rfl, rfl⟩)
      go_wp2
      go_ret2
      exact ⟨ret_built (by rw [HB0.out]) (by rw [HB0.out]; rfl), unhide HB2⟩
end
end Go.Proofs.YtjfmiomopfjecabGreat

/- The document's device: the new image is installed, or given up. -/
namespace Go.Proofs.YtjfmiomopfjecabGreat
open Go.RowKit Go.Lib

/-- the pages of a slot, the first k -/
def slotG (slot : Nat) (s : ByteArray) (k : Nat) : List GW := (List.range k).map fun i => wrG (M.textW (11 + 6 * slot + i) s (16 * i))
theorem slotG_succ (slot : Nat) (s : ByteArray) (k : Nat) : slotG slot s (k + 1) = slotG slot s k ++ [wrG (M.textW (11 + 6 * slot + k) s (16 * k))] := by
  unfold slotG
  rw [List.range_succ, List.map_append]
  rfl
theorem slotG_length (slot : Nat) (s : ByteArray) (k : Nat) : (slotG slot s k).length = k := by unfold slotG; simp
theorem slotG_all (slot : Nat) (s : ByteArray) : slotG slot s (M.chunksN s.size) = (M.slotW slot s).map wrG := by
  unfold slotG M.slotW
  rw [List.map_map]
  rfl
theorem chunk_part (s : ByteArray) (p k e : Nat) (hk : 16 * k < s.size) (he : e = min (16 * k + 16) s.size) : (s.extract (16 * k) e).size ≤ 16 ∧ ((p, M.mk 16 (M.bz (s.extract (16 * k) e))) : GW) = wrG (M.textW p s (16 * k)) := by
  have hx : s.extract (16 * k) e = M.mk (e - 16 * k) fun j => M.bz s (16 * k + j) := by
    have := M.extract_mk s (16 * k) (e - 16 * k) (by omega)
    rw [show 16 * k + (e - 16 * k) = e from by omega] at this
    exact this
  refine ⟨by rw [hx, M.mk_size]; omega, ?_⟩
  unfold wrG M.textW
  refine congrArg (Prod.mk p) (M.mk_congr fun j hj => ?_)
  show M.bz (s.extract (16 * k) e) j = M.bz s (16 * k + j)
  rw [hx]
  by_cases h : j < e - 16 * k
  · rw [M.bz_mk (fun j _ => M.bz_lt _ _) h]
  · rw [M.bz_out _ j (by rw [M.mk_size]; omega), M.bz_out s (16 * k + j) (by omega)]
theorem two_texts {a b : ByteArray} {x y : Nat} (ha : a.size = 1) (hb : b.size = 1) (hx : M.bz a 0 = x) (hy : M.bz b 0 = y) : (a ++ b).size = 2 ∧ M.bz (a ++ b) 0 = x ∧ M.bz (a ++ b) 1 = y := by
  refine ⟨by simp [ha, hb], ?_, ?_⟩
  · rw [M.bz_append, if_pos (by omega)]; exact hx
  · rw [M.bz_append, if_neg (by omega), ha]; exact hy
theorem four_texts {a b : ByteArray} {x y z w : Nat} (ha : a.size = 2) (hb : b.size = 2) (hx : M.bz a 0 = x) (hy : M.bz a 1 = y) (hz : M.bz b 0 = z) (hw : M.bz b 1 = w) : (a ++ b).size = 4 ∧ M.bz (a ++ b) 0 = x ∧ M.bz (a ++ b) 1 = y ∧ M.bz (a ++ b) 2 = z ∧ M.bz (a ++ b) 3 = w := by
  refine ⟨by simp [ha, hb], ?_, ?_, ?_, ?_⟩
  · rw [M.bz_append, if_pos (by omega)]; exact hx
  · rw [M.bz_append, if_pos (by omega)]; exact hy
  · rw [M.bz_append, if_neg (by omega), ha]; exact hz
  · rw [M.bz_append, if_neg (by omega), ha]; exact hw
section
variable {X : World} {g q : Nat} {d : M.Dev}
set_option maxRecDepth 10000 in
set_option maxHeartbeats 1000000 in
theorem installs_no (hI : M.Inv' d) (hR : RefAt X g d) (h : PlanIs X q (M.idle d)) {a : Nat} (ha : M.sealOf (M.mf d.F) 48 = some a) (hb : ¬ (M.builtN d.F).1 = 0) :
    Calls Tryz.prog 145 #[.pointer (some ⟨g, 0, none⟩), .pointer (some ⟨q, 0, none⟩)] X fun e w' => Comes X q (M.installs d) e w' := by
  have hF := hI.2.1.bytes
  have HBU := hide (refBuilt_any hI hR ha)
  have HE1 : Hid (M.installs d = ⟨[M.sameW d.F 0 0 (M.fld d.F 3)], (M.builtN d.F).1, ⟨#[]⟩, -1, d.wait, d.next, d.age, d.on⟩) := by show _ = _; unfold M.installs; rw [if_pos hb]
  have b3 : M.fld d.F 3 < 256 := hF _
  have H3 : Hid (∀ Y : World, RefAt Y g d → Calls Tryz.prog 93 #[.pointer (some ⟨g, 0, none⟩), .int .i64 3] Y fun e w' => e = .returned (.int .i64 (M.fld d.F 3)) ∧ Y = w') := fun Y hY => refField_any hY hF 3 (by omega)
  have HS0 : Hid (∀ (Y : World), RefAt Y g d → PlanIs Y q (M.idle d) → Calls Tryz.prog 144 #[.pointer (some ⟨g, 0, none⟩), .pointer (some ⟨q, 0, none⟩), .int .i64 0, .int .i64 0, .int .i64 (M.fld d.F 3)] Y fun e w' => e = .returned (.tuple #[]) ∧ PlanAt w' q [wrG (M.sameW d.F 0 0 (M.fld d.F 3))] 0 0 ⟨#[]⟩ (-1) d.wait d.next d.age d.on ∧ Below q Y w') := fun Y hY hP => refSame_any hY hF hP (by show 0 ≤ 50; omega) 0 0 (M.fld d.F 3) (by omega) (by omega) b3
  have HRF := hide hR
  have HPL := hide h
  have hql := PlanAt.ref h
  clear hI hR h ha hF
  generalize (M.builtN d.F).2 = im at *
  generalize (M.builtN d.F).1 = bn at *
  have hb' : ¬ (bn : Int) = 0 := by omega
  generalize hG1 : wrG (M.sameW d.F 0 0 (M.fld d.F 3)) = G1 at *
  have HG1 := hide hG1
  clear hG1
  generalize M.fld d.F 3 = f3 at *
  go_enter Tryz.func145, Tryz.ntmps145
  go_wp2_with fail
  refine (unhide HBU).mono ?_
  rintro e w1 ⟨rfl, hb1⟩
  have HP1 := hide ((unhide HPL).kept hb1)
  have HR1 := hide ((unhide HRF).kept hb1)
  have HB1 := hide (hb1.mono (Nat.le_of_lt hql))
  clear hb1 HBU
  go_wp2_with fail
  refine (unhide H3 _ (unhide HR1)).mono ?_
  rintro e _ ⟨rfl, rfl⟩
  go_wp2_with fail
  refine (unhide HS0 _ (unhide HR1) (unhide HP1)).mono ?_
  rintro e w2 ⟨rfl, hp2, hb2⟩
  have HB2 := hide ((unhide HB1).trans hb2)
  have HFA := hide (refFails_any hp2 bn)
  clear hp2 hb2
  go_wp2_with fail
  refine (unhide HFA).mono ?_
  rintro e w3 ⟨rfl, hp3, hb3⟩
  have HP3 := hide hp3
  have HB3 := hide ((unhide HB2).trans hb3)
  clear hp3 hb3
  go_wp2
  refine bodyPost_ret (v := .tuple #[]) (by simp [results, Tryz.results145, go_sem]) rfl ⟨rfl, ?_, unhide HB3⟩
  rw [HE1.out]
  have hfin := unhide HP3
  rw [← HG1.out] at hfin
  exact hfin
end
end Go.Proofs.YtjfmiomopfjecabGreat

/- The document's device: the new image is installed. -/
namespace Go.Proofs.YtjfmiomopfjecabGreat
open Go.RowKit Go.Lib

section
variable {X : World} {g q : Nat} {d : M.Dev}
set_option maxRecDepth 10000 in
set_option maxHeartbeats 4000000 in
theorem installs_zero (hI : M.Inv' d) (hR : RefAt X g d) (hgq : g < q) (h : PlanIs X q (M.idle d)) {a : Nat} (ha : M.sealOf (M.mf d.F) 48 = some a) (hb : (M.builtN d.F).1 = 0) (hkp : M.fld d.F 1 = 1) :
    Calls Tryz.prog 145 #[.pointer (some ⟨g, 0, none⟩), .pointer (some ⟨q, 0, none⟩)] X fun e w' => Comes X q (M.installs d) e w' := by
  have hF := hI.2.1.bytes
  have hle := M.sealOf_le ha
  have hw := recAt_le d.F
  have hsz := M.image_size (M.built_ok hb).1
  have HBU := hide (refBuilt_any hI hR ha)
  rw [hb] at HBU
  have HE1 : Hid (M.installs d = ⟨M.slotW 0 (M.builtN d.F).2 ++ [M.noteW d.F 0 1 2 3 (M.builtN d.F).2.size (M.fld d.F 5) (M.mf d.F 0) (M.mf d.F 1) (M.fld d.F 8) (M.fld d.F 9) 0], 0, ⟨#[]⟩, -1, d.wait, d.next, 0, d.on⟩) := by
    show _ = _
    unfold M.installs
    rw [if_neg (by omega), hkp]
    rfl
  have H1 : Hid (∀ Y : World, RefAt Y g d → Calls Tryz.prog 93 #[.pointer (some ⟨g, 0, none⟩), .int .i64 1] Y fun e w' => e = .returned (.int .i64 1) ∧ Y = w') := by
    intro Y hY
    have := refField_any hY hF 1 (by omega)
    rw [hkp] at this
    exact this
  have HMA := hide (fun (Y : World) (hY : RefAt Y g d) => refMan_any hY hF ha)
  have HWH := hide (fun (Y : World) (hY : RefAt Y g d) => refWhere_any hY hF)
  have HPA := hide (fun (Y : World) (hY : RefAt Y g d) => refPage_any hY hF (M.recAt d.F))
  obtain ⟨z1, b1⟩ := page_part hF (p := M.recAt d.F) (a := 5) (n := 1) (by omega) (by omega)
  obtain ⟨z2, b2⟩ := page_part hF (p := M.recAt d.F) (a := 8) (n := 2) (by omega) (by omega)
  have zm : ((manT d.F a).extract 0 2).size = 2 := by rw [extract_zero _ _ (by rw [M.mk_size]; omega), M.mk_size]
  have bm : ∀ i, i < 2 → M.bz ((manT d.F a).extract 0 2) i = M.mf d.F i := by
    intro i hi
    rw [extract_zero _ _ (by rw [M.mk_size]; omega), M.bz_mk (fun j _ => M.bz_lt _ _) hi, M.bz_mk (fun j _ => mf_bytes hF j) (by omega)]
  have zn : (M.bytesOf [(M.builtN d.F).2.size]).size = 1 := rfl
  have bn : M.bz (M.bytesOf [(M.builtN d.F).2.size]) 0 = (M.builtN d.F).2.size := by rw [M.bz_bytesOf (fun x hx => by simp at hx; omega)]; rfl
  obtain ⟨zL, L0, L1⟩ := two_texts zn z1 bn (b1 0 (by omega))
  obtain ⟨zV, V0, V1, V2, V3⟩ := four_texts zm z2 (bm 0 (by omega)) (bm 1 (by omega)) (b2 0 (by omega)) (b2 1 (by omega))
  have HN : Hid (∀ (Y : World) (l : List GW), l.length ≤ 20 → RefAt Y g d → PlanAt Y q l 0 0 ⟨#[]⟩ (-1) d.wait d.next d.age d.on → Calls Tryz.prog 154 #[.pointer (some ⟨g, 0, none⟩), .pointer (some ⟨q, 0, none⟩), .int .i64 0, .int .i64 1, .int .i64 2, .int .i64 3, .string (M.bytesOf [(M.builtN d.F).2.size] ++ (pageT d.F (M.recAt d.F)).extract 5 6), .string ((manT d.F a).extract 0 2 ++ (pageT d.F (M.recAt d.F)).extract 8 10), .int .i64 0] Y fun e w' =>
      e = .returned (.tuple #[]) ∧ PlanAt w' q (l ++ [wrG (M.noteW d.F 0 1 2 3 (M.builtN d.F).2.size (M.fld d.F 5) (M.mf d.F 0) (M.mf d.F 1) (M.fld d.F 8) (M.fld d.F 9) 0)]) 0 0 ⟨#[]⟩ (-1) d.wait d.next d.age d.on ∧ Below q Y w') := by
    intro Y l hl hY hP
    have hn := refNotes_any hY hF hP (by omega) 0 1 2 3 0 (by omega) (by omega) (by omega) (by omega) (by omega) _ _ zL zV _ rfl
    unfold recT16 at hn
    rw [L0, L1, V0, V1, V2, V3] at hn
    exact hn
  have HWR : Hid (∀ (Y : World) (k e : Nat) (c : Int), k ≤ 10 → 16 * k < (M.builtN d.F).2.size → e = min (16 * k + 16) (M.builtN d.F).2.size → c = ((11 + 6 * 0 + k : Nat) : Int) → PlanAt Y q (slotG 0 (M.builtN d.F).2 k) 0 0 ⟨#[]⟩ (-1) d.wait d.next d.age d.on → Calls Tryz.prog 151 #[.pointer (some ⟨q, 0, none⟩), .int .i64 c, .string ((M.builtN d.F).2.extract (16 * k) e)] Y fun e w' => e = .returned (.tuple #[]) ∧ PlanAt w' q (slotG 0 (M.builtN d.F).2 (k + 1)) 0 0 ⟨#[]⟩ (-1) d.wait d.next d.age d.on ∧ Below q Y w') := by
    rintro Y k e c hk h16 he rfl hP
    obtain ⟨q1, q2⟩ := chunk_part (M.builtN d.F).2 (11 + 6 * 0 + k) k e h16 he
    have := refWrites_any hP (11 + 6 * 0 + k) _ q1 (by rw [slotG_length]; omega)
    rw [q2, ← slotG_succ] at this
    exact this
  have HALL := hide (slotG_all 0 (M.builtN d.F).2)
  have hzP : (pageT d.F (M.recAt d.F)).size = 16 := pageT_size (by omega)
  have i5 : (6 : Int) ≤ ((pageT d.F (M.recAt d.F)).size : Int) := by omega
  have i8 : (10 : Int) ≤ ((pageT d.F (M.recAt d.F)).size : Int) := by omega
  have im2 : (2 : Int) ≤ ((manT d.F a).size : Int) := by rw [M.mk_size]; omega
  have hTs : (manT d.F a).size = a + 2 := M.mk_size _ _
  have ha39 := hle.1
  have z1' : ((pageT d.F (M.recAt d.F)).extract 5 6).size = 1 := z1
  have z2' : ((pageT d.F (M.recAt d.F)).extract 8 10).size = 2 := z2
  have HRF := hide hR
  have HPL := hide h
  have hql := PlanAt.ref h
  generalize hNW : wrG (M.noteW d.F 0 1 2 3 (M.builtN d.F).2.size (M.fld d.F 5) (M.mf d.F 0) (M.mf d.F 1) (M.fld d.F 8) (M.fld d.F 9) 0) = G2 at *
  have HNW := hide hNW
  have hNs : (M.bytesOf [(M.builtN d.F).2.size] ++ (pageT d.F (M.recAt d.F)).extract 5 6).size = 2 := zL
  have hVs : ((manT d.F a).extract 0 2 ++ (pageT d.F (M.recAt d.F)).extract 8 10).size = 4 := zV
  clear hNW hI hR h ha hF hb hkp hle z1 b1 z2 b2 bm zL L0 L1 zV V0 V1 V2 V3 bn
  have HSLG := hide (fun k => slotG_length 0 (M.builtN d.F).2 k)
  generalize manT d.F a = Tm at *
  generalize (pageT d.F (M.recAt d.F)) = P at *
  generalize M.recAt d.F = ra at *
  have hrt : ∀ (Y : World), (convert 79 9 (.slice (some ⟨Y.heap.size, 0, none⟩) 1 1)).run Tryz.prog (Y.alloc (.cells #[.int .u8 (M.builtN d.F).2.size] 5)) = .ok (.string (M.bytesOf [(M.builtN d.F).2.size])) (Y.alloc (.cells #[.int .u8 (M.builtN d.F).2.size] 5)) := fun Y => text_run Y [((M.builtN d.F).2.size : Int)] 1 rfl
  generalize M.bytesOf [(M.builtN d.F).2.size] = NT at *
  generalize (M.builtN d.F).2 = im at *
  go_enter Tryz.func145, Tryz.ntmps145
  go_wp2_with fail
  refine (unhide HBU).mono ?_
  rintro e w1 ⟨rfl, hb1⟩
  have HP1 : Hid (PlanAt w1 q [] 0 0 ⟨#[]⟩ (-1) d.wait d.next d.age d.on) := (unhide HPL).kept hb1
  have HR1 := hide ((unhide HRF).kept hb1)
  have HB1 := hide (hb1.mono (Nat.le_of_lt hql))
  clear hb1 HBU HPL HRF
  go_wp2_with fail
  refine (unhide H1 _ (unhide HR1)).mono ?_
  rintro e _ ⟨rfl, rfl⟩
  go_wp2_with fail
  go_loopw [7] (fun i wr => ∃ k : Nat, 16 * k ≤ im.size + 15 ∧ i = .int .i64 (16 * (k : Int)) ∧ RefAt wr g d ∧ PlanAt wr q (slotG 0 im k) 0 0 ⟨#[]⟩ (-1) d.wait d.next d.age d.on ∧ Below q X wr) (fun i _ => 200 - (intOf i).toNat)
  case atStart => exact ⟨0, by omega, rfl, unhide HR1, unhide HP1, unhide HB1⟩
  case round =>
    clear HR1 HP1 HB1
    obtain ⟨k, hk, rfl, hr2, hp2, hb2⟩ := hrel
    have HR2 := hide hr2
    have HP2 := hide hp2
    have HB2 := hide hb2
    clear hr2 hp2 hb2
    by_cases hlt : 16 * k < im.size
    · have hq0 : (16 * (k : Int)).tdiv 16 = (k : Int) := by rw [Int.tdiv_eq_ediv_of_nonneg (by omega)]; omega
      have hltI : 16 * (k : Int) < (im.size : Int) := by omega
      by_cases hmore : 16 * k + 16 ≤ im.size
      · have hm1 : ¬ (im.size : Int) < 16 * (k : Int) + 16 := by omega
        go_wp2_with fail
        rw [show im.extract (16 * k) (16 * k + 16) = im.extract (16 * k) (16 * k + 16) from rfl]
        refine (unhide HWR _ k _ _ (by omega) hlt (by omega) (by omega) (unhide HP2)).mono ?_
        rintro e w3 ⟨rfl, hp3, hb3⟩
        have HP3 := hide hp3
        have HR3 := hide ((unhide HR2).below hb3 hgq)
        have HB3 := hide ((unhide HB2).trans hb3)
        clear hp3 hb3
        go_wp2
        go_roundw
        case rel => exact ⟨k + 1, by omega, ret_num (by omega), unhide HR3, unhide HP3, unhide HB3⟩
        case measure => simp [intOf]; omega
      · have hm1 : (im.size : Int) < 16 * (k : Int) + 16 := by omega
        go_wp2_with fail
        refine (unhide HWR _ k _ _ (by omega) hlt (by omega) (by omega) (unhide HP2)).mono ?_
        rintro e w3 ⟨rfl, hp3, hb3⟩
        have HP3 := hide hp3
        have HR3 := hide ((unhide HR2).below hb3 hgq)
        have HB3 := hide ((unhide HB2).trans hb3)
        clear hp3 hb3
        go_wp2
        go_roundw
        case rel => exact ⟨k + 1, by omega, ret_num (by omega), unhide HR3, unhide HP3, unhide HB3⟩
        case measure => simp [intOf]; omega
    · have hkc : k = M.chunksN im.size := by unfold M.chunksN; omega
      have hltI : ¬ 16 * (k : Int) < (im.size : Int) := by omega
      have hk10 : k ≤ 10 := by omega
      have HKC := hide hkc
      clear hkc hlt hk
      go_wp2_with fail
      refine (unhide HMA _ (unhide HR2)).mono ?_
      rintro e _ ⟨rfl, rfl⟩
      go_wp2_with fail
      refine (unhide HWH _ (unhide HR2)).mono ?_
      rintro e _ ⟨rfl, rfl⟩
      go_wp2_with fail
      refine (unhide HPA _ (unhide HR2)).mono ?_
      rintro e _ ⟨rfl, rfl⟩
      have hrw := hrt wr
      have hql2 := (unhide HP2).ref
      have hw8 : IntKind.u8.wrap (im.size : Int) = im.size := by simp [IntKind.wrap, IntKind.bits, IntKind.signed]; omega
      clear hrt
      go_wp2_with fail
      have HR4 : Hid (RefAt (wr.alloc (.cells #[.int .u8 im.size] 5)) g d) := (unhide HR2).kept ((Below.refl _ _).alloc (Nat.le_refl _) _)
      have HP4 : Hid (PlanAt (wr.alloc (.cells #[.int .u8 im.size] 5)) q (slotG 0 im k) 0 0 ⟨#[]⟩ (-1) d.wait d.next d.age d.on) := (unhide HP2).kept ((Below.refl _ _).alloc (Nat.le_refl _) _)
      have HB4 : Hid (Below q X (wr.alloc (.cells #[.int .u8 im.size] 5))) := (unhide HB2).alloc (Nat.le_of_lt hql2) _
      clear HR2 HP2 HB2 hrw hw8 hql2
      generalize (wr.alloc (.cells #[.int .u8 im.size] 5)) = w5 at *
      have hL20 : (slotG 0 im k).length ≤ 20 := by rw [HSLG.out]; omega
      clear hTs
      go_region_held3 (fun _ => True) (first | trivial | (intros; trivial)) ((go_at_call 154; with_reducible refine (unhide HN _ _ hL20 ((unhide HR4).kept (Below.refl _ _).drew) ((unhide HP4).kept (Below.refl _ _).drew)).mono ?_; rintro y w9 ⟨rfl, hp9, hb9⟩))
      all_goals
        have HP9 := hide hp9
        have HB9 : Hid (Below q X w9) := (unhide HB4).trans (Below.trans (Below.refl q w5).drew hb9)
        obtain ⟨⟨ao, ca, to, ct', hxf⟩, hff⟩ := hp9.facts
        have hqf := hp9.ref
        clear hp9 hb9
        have HPf := hide ((unhide HP9).setAge 0)
        have HBf := hide (low_set (o := 8) (v := .int .i64 0) (unhide HB9))
        go_wp2
        refine bodyPost_end (v := .tuple #[]) (by simp [results, Tryz.results145, go_sem]) rfl ⟨rfl, ?_, unhide HBf⟩
        rw [HE1.out]
        have hfin := unhide HPf
        rw [HKC.out, HALL.out, ← HNW.out] at hfin
        unfold PlanIs
        dsimp only
        rw [List.map_append]
        exact hfin
set_option maxRecDepth 10000 in
set_option maxHeartbeats 4000000 in
theorem installs_one (hI : M.Inv' d) (hR : RefAt X g d) (hgq : g < q) (h : PlanIs X q (M.idle d)) {a : Nat} (ha : M.sealOf (M.mf d.F) 48 = some a) (hb : (M.builtN d.F).1 = 0) (hkp : M.fld d.F 1 = 0) :
    Calls Tryz.prog 145 #[.pointer (some ⟨g, 0, none⟩), .pointer (some ⟨q, 0, none⟩)] X fun e w' => Comes X q (M.installs d) e w' := by
  have hF := hI.2.1.bytes
  have hle := M.sealOf_le ha
  have hw := recAt_le d.F
  have hsz := M.image_size (M.built_ok hb).1
  have HBU := hide (refBuilt_any hI hR ha)
  rw [hb] at HBU
  have HE1 : Hid (M.installs d = ⟨M.slotW 1 (M.builtN d.F).2 ++ [M.noteW d.F 0 0 2 3 (M.fld d.F 4) (M.builtN d.F).2.size (M.fld d.F 6) (M.fld d.F 7) (M.mf d.F 0) (M.mf d.F 1) 0], 0, ⟨#[]⟩, -1, d.wait, d.next, 0, d.on⟩) := by
    show _ = _
    unfold M.installs
    rw [if_neg (by omega), hkp]
    rfl
  have H1 : Hid (∀ Y : World, RefAt Y g d → Calls Tryz.prog 93 #[.pointer (some ⟨g, 0, none⟩), .int .i64 1] Y fun e w' => e = .returned (.int .i64 0) ∧ Y = w') := by
    intro Y hY
    have := refField_any hY hF 1 (by omega)
    rw [hkp] at this
    exact this
  have HMA := hide (fun (Y : World) (hY : RefAt Y g d) => refMan_any hY hF ha)
  have HWH := hide (fun (Y : World) (hY : RefAt Y g d) => refWhere_any hY hF)
  have HPA := hide (fun (Y : World) (hY : RefAt Y g d) => refPage_any hY hF (M.recAt d.F))
  obtain ⟨z1, b1⟩ := page_part hF (p := M.recAt d.F) (a := 4) (n := 1) (by omega) (by omega)
  obtain ⟨z2, b2⟩ := page_part hF (p := M.recAt d.F) (a := 6) (n := 2) (by omega) (by omega)
  have zm : ((manT d.F a).extract 0 2).size = 2 := by rw [extract_zero _ _ (by rw [M.mk_size]; omega), M.mk_size]
  have bm : ∀ i, i < 2 → M.bz ((manT d.F a).extract 0 2) i = M.mf d.F i := by
    intro i hi
    rw [extract_zero _ _ (by rw [M.mk_size]; omega), M.bz_mk (fun j _ => M.bz_lt _ _) hi, M.bz_mk (fun j _ => mf_bytes hF j) (by omega)]
  have zn : (M.bytesOf [(M.builtN d.F).2.size]).size = 1 := rfl
  have bn : M.bz (M.bytesOf [(M.builtN d.F).2.size]) 0 = (M.builtN d.F).2.size := by rw [M.bz_bytesOf (fun x hx => by simp at hx; omega)]; rfl
  obtain ⟨zL, L0, L1⟩ := two_texts z1 zn (b1 0 (by omega)) bn
  obtain ⟨zV, V0, V1, V2, V3⟩ := four_texts z2 zm (b2 0 (by omega)) (b2 1 (by omega)) (bm 0 (by omega)) (bm 1 (by omega))
  have HN : Hid (∀ (Y : World) (l : List GW), l.length ≤ 20 → RefAt Y g d → PlanAt Y q l 0 0 ⟨#[]⟩ (-1) d.wait d.next d.age d.on → Calls Tryz.prog 154 #[.pointer (some ⟨g, 0, none⟩), .pointer (some ⟨q, 0, none⟩), .int .i64 0, .int .i64 0, .int .i64 2, .int .i64 3, .string ((pageT d.F (M.recAt d.F)).extract 4 5 ++ M.bytesOf [(M.builtN d.F).2.size]), .string ((pageT d.F (M.recAt d.F)).extract 6 8 ++ (manT d.F a).extract 0 2), .int .i64 0] Y fun e w' =>
      e = .returned (.tuple #[]) ∧ PlanAt w' q (l ++ [wrG (M.noteW d.F 0 0 2 3 (M.fld d.F 4) (M.builtN d.F).2.size (M.fld d.F 6) (M.fld d.F 7) (M.mf d.F 0) (M.mf d.F 1) 0)]) 0 0 ⟨#[]⟩ (-1) d.wait d.next d.age d.on ∧ Below q Y w') := by
    intro Y l hl hY hP
    have hn := refNotes_any hY hF hP (by omega) 0 0 2 3 0 (by omega) (by omega) (by omega) (by omega) (by omega) _ _ zL zV _ rfl
    unfold recT16 at hn
    rw [L0, L1, V0, V1, V2, V3] at hn
    exact hn
  have HWR : Hid (∀ (Y : World) (k e : Nat) (c : Int), k ≤ 10 → 16 * k < (M.builtN d.F).2.size → e = min (16 * k + 16) (M.builtN d.F).2.size → c = ((11 + 6 * 1 + k : Nat) : Int) → PlanAt Y q (slotG 1 (M.builtN d.F).2 k) 0 0 ⟨#[]⟩ (-1) d.wait d.next d.age d.on → Calls Tryz.prog 151 #[.pointer (some ⟨q, 0, none⟩), .int .i64 c, .string ((M.builtN d.F).2.extract (16 * k) e)] Y fun e w' => e = .returned (.tuple #[]) ∧ PlanAt w' q (slotG 1 (M.builtN d.F).2 (k + 1)) 0 0 ⟨#[]⟩ (-1) d.wait d.next d.age d.on ∧ Below q Y w') := by
    rintro Y k e c hk h16 he rfl hP
    obtain ⟨q1, q2⟩ := chunk_part (M.builtN d.F).2 (11 + 6 * 1 + k) k e h16 he
    have := refWrites_any hP (11 + 6 * 1 + k) _ q1 (by rw [slotG_length]; omega)
    rw [q2, ← slotG_succ] at this
    exact this
  have HALL := hide (slotG_all 1 (M.builtN d.F).2)
  have hzP : (pageT d.F (M.recAt d.F)).size = 16 := pageT_size (by omega)
  have i5 : (5 : Int) ≤ ((pageT d.F (M.recAt d.F)).size : Int) := by omega
  have i8 : (8 : Int) ≤ ((pageT d.F (M.recAt d.F)).size : Int) := by omega
  have im2 : (2 : Int) ≤ ((manT d.F a).size : Int) := by rw [M.mk_size]; omega
  have hTs : (manT d.F a).size = a + 2 := M.mk_size _ _
  have ha39 := hle.1
  have z1' : ((pageT d.F (M.recAt d.F)).extract 4 5).size = 1 := z1
  have z2' : ((pageT d.F (M.recAt d.F)).extract 6 8).size = 2 := z2
  have HRF := hide hR
  have HPL := hide h
  have hql := PlanAt.ref h
  generalize hNW : wrG (M.noteW d.F 0 0 2 3 (M.fld d.F 4) (M.builtN d.F).2.size (M.fld d.F 6) (M.fld d.F 7) (M.mf d.F 0) (M.mf d.F 1) 0) = G2 at *
  have HNW := hide hNW
  have hNs : ((pageT d.F (M.recAt d.F)).extract 4 5 ++ M.bytesOf [(M.builtN d.F).2.size]).size = 2 := zL
  have hVs : ((pageT d.F (M.recAt d.F)).extract 6 8 ++ (manT d.F a).extract 0 2).size = 4 := zV
  clear hNW hI hR h ha hF hb hkp hle z1 b1 z2 b2 bm zL L0 L1 zV V0 V1 V2 V3 bn
  have HSLG := hide (fun k => slotG_length 1 (M.builtN d.F).2 k)
  generalize manT d.F a = Tm at *
  generalize (pageT d.F (M.recAt d.F)) = P at *
  generalize M.recAt d.F = ra at *
  have hrt : ∀ (Y : World), (convert 79 9 (.slice (some ⟨Y.heap.size, 0, none⟩) 1 1)).run Tryz.prog (Y.alloc (.cells #[.int .u8 (M.builtN d.F).2.size] 5)) = .ok (.string (M.bytesOf [(M.builtN d.F).2.size])) (Y.alloc (.cells #[.int .u8 (M.builtN d.F).2.size] 5)) := fun Y => text_run Y [((M.builtN d.F).2.size : Int)] 1 rfl
  generalize M.bytesOf [(M.builtN d.F).2.size] = NT at *
  generalize (M.builtN d.F).2 = im at *
  go_enter Tryz.func145, Tryz.ntmps145
  go_wp2_with fail
  refine (unhide HBU).mono ?_
  rintro e w1 ⟨rfl, hb1⟩
  have HP1 : Hid (PlanAt w1 q [] 0 0 ⟨#[]⟩ (-1) d.wait d.next d.age d.on) := (unhide HPL).kept hb1
  have HR1 := hide ((unhide HRF).kept hb1)
  have HB1 := hide (hb1.mono (Nat.le_of_lt hql))
  clear hb1 HBU HPL HRF
  go_wp2_with fail
  refine (unhide H1 _ (unhide HR1)).mono ?_
  rintro e _ ⟨rfl, rfl⟩
  go_wp2_with fail
  go_loopw [7] (fun i wr => ∃ k : Nat, 16 * k ≤ im.size + 15 ∧ i = .int .i64 (16 * (k : Int)) ∧ RefAt wr g d ∧ PlanAt wr q (slotG 1 im k) 0 0 ⟨#[]⟩ (-1) d.wait d.next d.age d.on ∧ Below q X wr) (fun i _ => 200 - (intOf i).toNat)
  case atStart => exact ⟨0, by omega, rfl, unhide HR1, unhide HP1, unhide HB1⟩
  case round =>
    clear HR1 HP1 HB1
    obtain ⟨k, hk, rfl, hr2, hp2, hb2⟩ := hrel
    have HR2 := hide hr2
    have HP2 := hide hp2
    have HB2 := hide hb2
    clear hr2 hp2 hb2
    by_cases hlt : 16 * k < im.size
    · have hq0 : (16 * (k : Int)).tdiv 16 = (k : Int) := by rw [Int.tdiv_eq_ediv_of_nonneg (by omega)]; omega
      have hltI : 16 * (k : Int) < (im.size : Int) := by omega
      by_cases hmore : 16 * k + 16 ≤ im.size
      · have hm1 : ¬ (im.size : Int) < 16 * (k : Int) + 16 := by omega
        go_wp2_with fail
        rw [show im.extract (16 * k) (16 * k + 16) = im.extract (16 * k) (16 * k + 16) from rfl]
        refine (unhide HWR _ k _ _ (by omega) hlt (by omega) (by omega) (unhide HP2)).mono ?_
        rintro e w3 ⟨rfl, hp3, hb3⟩
        have HP3 := hide hp3
        have HR3 := hide ((unhide HR2).below hb3 hgq)
        have HB3 := hide ((unhide HB2).trans hb3)
        clear hp3 hb3
        go_wp2
        go_roundw
        case rel => exact ⟨k + 1, by omega, ret_num (by omega), unhide HR3, unhide HP3, unhide HB3⟩
        case measure => simp [intOf]; omega
      · have hm1 : (im.size : Int) < 16 * (k : Int) + 16 := by omega
        go_wp2_with fail
        refine (unhide HWR _ k _ _ (by omega) hlt (by omega) (by omega) (unhide HP2)).mono ?_
        rintro e w3 ⟨rfl, hp3, hb3⟩
        have HP3 := hide hp3
        have HR3 := hide ((unhide HR2).below hb3 hgq)
        have HB3 := hide ((unhide HB2).trans hb3)
        clear hp3 hb3
        go_wp2
        go_roundw
        case rel => exact ⟨k + 1, by omega, ret_num (by omega), unhide HR3, unhide HP3, unhide HB3⟩
        case measure => simp [intOf]; omega
    · have hkc : k = M.chunksN im.size := by unfold M.chunksN; omega
      have hltI : ¬ 16 * (k : Int) < (im.size : Int) := by omega
      have hk10 : k ≤ 10 := by omega
      have HKC := hide hkc
      clear hkc hlt hk
      go_wp2_with fail
      refine (unhide HMA _ (unhide HR2)).mono ?_
      rintro e _ ⟨rfl, rfl⟩
      go_wp2_with fail
      refine (unhide HWH _ (unhide HR2)).mono ?_
      rintro e _ ⟨rfl, rfl⟩
      go_wp2_with fail
      refine (unhide HPA _ (unhide HR2)).mono ?_
      rintro e _ ⟨rfl, rfl⟩
      have hrw := hrt wr
      have hql2 := (unhide HP2).ref
      have hw8 : IntKind.u8.wrap (im.size : Int) = im.size := by simp [IntKind.wrap, IntKind.bits, IntKind.signed]; omega
      clear hrt
      go_wp2_with fail
      have HR4 : Hid (RefAt (wr.alloc (.cells #[.int .u8 im.size] 5)) g d) := (unhide HR2).kept ((Below.refl _ _).alloc (Nat.le_refl _) _)
      have HP4 : Hid (PlanAt (wr.alloc (.cells #[.int .u8 im.size] 5)) q (slotG 1 im k) 0 0 ⟨#[]⟩ (-1) d.wait d.next d.age d.on) := (unhide HP2).kept ((Below.refl _ _).alloc (Nat.le_refl _) _)
      have HB4 : Hid (Below q X (wr.alloc (.cells #[.int .u8 im.size] 5))) := (unhide HB2).alloc (Nat.le_of_lt hql2) _
      clear HR2 HP2 HB2 hrw hw8 hql2
      generalize (wr.alloc (.cells #[.int .u8 im.size] 5)) = w5 at *
      have hL20 : (slotG 1 im k).length ≤ 20 := by rw [HSLG.out]; omega
      clear hTs
      go_region_held3 (fun _ => True) (first | trivial | (intros; trivial)) ((go_at_call 154; with_reducible refine (unhide HN _ _ hL20 ((unhide HR4).kept (Below.refl _ _).drew) ((unhide HP4).kept (Below.refl _ _).drew)).mono ?_; rintro y w9 ⟨rfl, hp9, hb9⟩))
      all_goals
        have HP9 := hide hp9
        have HB9 : Hid (Below q X w9) := (unhide HB4).trans (Below.trans (Below.refl q w5).drew hb9)
        obtain ⟨⟨ao, ca, to, ct', hxf⟩, hff⟩ := hp9.facts
        have hqf := hp9.ref
        clear hp9 hb9
        have HPf := hide ((unhide HP9).setAge 0)
        have HBf := hide (low_set (o := 8) (v := .int .i64 0) (unhide HB9))
        go_wp2
        refine bodyPost_end (v := .tuple #[]) (by simp [results, Tryz.results145, go_sem]) rfl ⟨rfl, ?_, unhide HBf⟩
        rw [HE1.out]
        have hfin := unhide HPf
        rw [HKC.out, HALL.out, ← HNW.out] at hfin
        unfold PlanIs
        dsimp only
        rw [List.map_append]
        exact hfin
/-- the new image is installed, or given up, as it should be -/
theorem refInstalls_any (hI : M.Inv' d) (hR : RefAt X g d) (hgq : g < q) (h : PlanIs X q (M.idle d)) (hp : M.fld d.F 2 = 1) :
    Calls Tryz.prog 145 #[.pointer (some ⟨g, 0, none⟩), .pointer (some ⟨q, 0, none⟩)] X fun e w' => Comes X q (M.installs d) e w' := by
  obtain ⟨a, ha⟩ := hI.2.1.man hp
  by_cases hb : (M.builtN d.F).1 = 0
  · have hk := hI.2.1.kept
    by_cases hkp : M.fld d.F 1 = 1
    · exact installs_zero hI hR hgq h ha hb hkp
    · exact installs_one hI hR hgq h ha hb (by omega)
  · exact installs_no hI hR h ha hb
end
end Go.Proofs.YtjfmiomopfjecabGreat

/- The document's device: a tick. -/
namespace Go.Proofs.YtjfmiomopfjecabGreat
open Go.RowKit Go.Lib

section
variable {X : World} {g q : Nat} {d : M.Dev}
set_option maxRecDepth 10000 in
set_option maxHeartbeats 1000000 in
theorem ticks_old (hI : M.Inv' d) (hR : RefAt X g d) (hgq : g < q) (h : PlanIs X q (M.idle d)) (c2 : M.fld d.F 2 = 2) (ca5 : 5 ≤ d.age + 1) :
    Calls Tryz.prog 121 #[.pointer (some ⟨g, 0, none⟩), .pointer (some ⟨q, 0, none⟩)] X fun e w' => Comes X q (M.ticks d) e w' := by
  have hF := hI.2.1.bytes
  have hne : ¬ g = q := by omega
  have H2 : Hid (Calls Tryz.prog 93 #[.pointer (some ⟨g, 0, none⟩), .int .i64 2] X fun e w' => e = .returned (.int .i64 (M.fld d.F 2)) ∧ X = w') := refField_any hR hF 2 (by omega)
  have hwt : d.wait ≤ 8 := hI.2.2.1
  have hnx : d.next ≤ 8 := hI.2.2.2.2.1
  have hag : d.age ≤ 5 := hI.2.2.2.2.2.1
  have HRF := hide hR
  have HPL : Hid (PlanAt X q [] 0 0 ⟨#[]⟩ (-1) d.wait d.next d.age d.on) := h
  have hql := PlanAt.ref h
  have hgl := hR.lt
  have HE1 : Hid (M.ticks d = ⟨[M.sameW d.F 0 0 0], 0, ⟨#[]⟩, -1, d.wait, d.next, d.age + 1, d.on⟩) := by show _ = _; unfold M.ticks; rw [if_pos c2, if_pos ca5]
  have HP1 : Hid (PlanAt (X.setCell ⟨q, 8, none⟩ (.int .i64 ((d.age : Int) + 1))) q [] 0 0 ⟨#[]⟩ (-1) d.wait d.next ((d.age : Int) + 1) d.on) := (unhide HPL).setAge _
  have HR1 : Hid (RefAt (X.setCell ⟨q, 8, none⟩ (.int .i64 ((d.age : Int) + 1))) g d) := hR.set hne
  have HB1 : Hid (Below q X (X.setCell ⟨q, 8, none⟩ (.int .i64 ((d.age : Int) + 1)))) := low_set (Below.refl q X)
  have HS : Hid (∀ (Y : World), RefAt Y g d → PlanAt Y q [] 0 0 ⟨#[]⟩ (-1) d.wait d.next ((d.age : Int) + 1) d.on → Calls Tryz.prog 144 #[.pointer (some ⟨g, 0, none⟩), .pointer (some ⟨q, 0, none⟩), .int .i64 0, .int .i64 0, .int .i64 0] Y fun e w' => e = .returned (.tuple #[]) ∧ PlanAt w' q [wrG (M.sameW d.F 0 0 0)] 0 0 ⟨#[]⟩ (-1) d.wait d.next ((d.age : Int) + 1) d.on ∧ Below q Y w') := fun Y hY hP => refSame_any hY hF hP (by show 0 ≤ 50; omega) 0 0 0 (by omega) (by omega) (by omega)
  obtain ⟨⟨ao, ca, to, ct, hxq⟩, hfq⟩ := (unhide HPL).facts
  have hxa := hR.ageC
  have hxn := hR.nextC
  clear hI hR h hF hxn
  rw [c2] at H2
  generalize d.age = ag at *
  go_enter Tryz.func121, Tryz.ntmps121
  (go_wp2_with fail); (refine (unhide H2).mono ?_); (rintro e w' ⟨rfl, rfl⟩)
  go_wp2_with fail
  with_reducible refine (unhide HS _ (unhide HR1) (unhide HP1)).mono ?_
  rintro e w2 ⟨rfl, hp2, hb2⟩
  have HP2 := hide hp2
  have HB2 := hide ((unhide HB1).trans hb2)
  clear hp2 hb2
  go_wp2
  refine bodyPost_end (v := .tuple #[]) (by simp [results, Tryz.results121, go_sem]) rfl ⟨rfl, ?_, unhide HB2⟩
  rw [HE1.out]
  exact unhide HP2
set_option maxRecDepth 10000 in
set_option maxHeartbeats 1000000 in
theorem ticks_young (hI : M.Inv' d) (hR : RefAt X g d) (hgq : g < q) (h : PlanIs X q (M.idle d)) (c2 : M.fld d.F 2 = 2) (ca5 : ¬ 5 ≤ d.age + 1) :
    Calls Tryz.prog 121 #[.pointer (some ⟨g, 0, none⟩), .pointer (some ⟨q, 0, none⟩)] X fun e w' => Comes X q (M.ticks d) e w' := by
  have hF := hI.2.1.bytes
  have hne : ¬ g = q := by omega
  have H2 : Hid (Calls Tryz.prog 93 #[.pointer (some ⟨g, 0, none⟩), .int .i64 2] X fun e w' => e = .returned (.int .i64 (M.fld d.F 2)) ∧ X = w') := refField_any hR hF 2 (by omega)
  have hwt : d.wait ≤ 8 := hI.2.2.1
  have hnx : d.next ≤ 8 := hI.2.2.2.2.1
  have hag : d.age ≤ 5 := hI.2.2.2.2.2.1
  have HRF := hide hR
  have HPL : Hid (PlanAt X q [] 0 0 ⟨#[]⟩ (-1) d.wait d.next d.age d.on) := h
  have hql := PlanAt.ref h
  have hgl := hR.lt
  have HE1 : Hid (M.ticks d = ⟨[], 0, ⟨#[]⟩, -1, d.wait, d.next, d.age + 1, d.on⟩) := by show _ = _; unfold M.ticks; rw [if_pos c2, if_neg ca5]
  have HP1 : Hid (PlanAt (X.setCell ⟨q, 8, none⟩ (.int .i64 ((d.age : Int) + 1))) q [] 0 0 ⟨#[]⟩ (-1) d.wait d.next ((d.age : Int) + 1) d.on) := (unhide HPL).setAge _
  have HB1 : Hid (Below q X (X.setCell ⟨q, 8, none⟩ (.int .i64 ((d.age : Int) + 1)))) := low_set (Below.refl q X)
  obtain ⟨⟨ao, ca, to, ct, hxq⟩, hfq⟩ := (unhide HPL).facts
  have hxa := hR.ageC
  have hxn := hR.nextC
  clear hI hR h hF hxn
  rw [c2] at H2
  generalize d.age = ag at *
  go_enter Tryz.func121, Tryz.ntmps121
  (go_wp2_with fail); (refine (unhide H2).mono ?_); (rintro e w' ⟨rfl, rfl⟩)
  go_wp2
  refine bodyPost_end (v := .tuple #[]) (by simp [results, Tryz.results121, go_sem]) rfl ⟨rfl, ?_, unhide HB1⟩
  rw [HE1.out]
  exact unhide HP1
set_option maxRecDepth 10000 in
set_option maxHeartbeats 1000000 in
theorem ticks_steady (hI : M.Inv' d) (hR : RefAt X g d) (hgq : g < q) (h : PlanIs X q (M.idle d)) (c2 : ¬ M.fld d.F 2 = 2) (c1 : ¬ M.fld d.F 2 = 1) :
    Calls Tryz.prog 121 #[.pointer (some ⟨g, 0, none⟩), .pointer (some ⟨q, 0, none⟩)] X fun e w' => Comes X q (M.ticks d) e w' := by
  have hF := hI.2.1.bytes
  have hne : ¬ g = q := by omega
  have H2 : Hid (Calls Tryz.prog 93 #[.pointer (some ⟨g, 0, none⟩), .int .i64 2] X fun e w' => e = .returned (.int .i64 (M.fld d.F 2)) ∧ X = w') := refField_any hR hF 2 (by omega)
  have hwt : d.wait ≤ 8 := hI.2.2.1
  have hnx : d.next ≤ 8 := hI.2.2.2.2.1
  have hag : d.age ≤ 5 := hI.2.2.2.2.2.1
  have HRF := hide hR
  have HPL : Hid (PlanAt X q [] 0 0 ⟨#[]⟩ (-1) d.wait d.next d.age d.on) := h
  have hql := PlanAt.ref h
  have hgl := hR.lt
  have HE1 : Hid (M.ticks d = M.idle d) := by show _ = _; unfold M.ticks; rw [if_neg c2, if_neg c1]
  clear hI hR h hF
  generalize M.fld d.F 2 = f2 at *
  have c2' : ¬ (f2 : Int) = 2 := by omega
  have c1' : ¬ (f2 : Int) = 1 := by omega
  go_enter Tryz.func121, Tryz.ntmps121
  (go_wp2_with fail); (refine (unhide H2).mono ?_); (rintro e w' ⟨rfl, rfl⟩)
  go_wp2
  refine bodyPost_end (v := .tuple #[]) (by simp [results, Tryz.results121, go_sem]) rfl ⟨rfl, ?_, Below.refl q X⟩
  rw [HE1.out]
  exact unhide HPL
set_option maxRecDepth 10000 in
set_option maxHeartbeats 1000000 in
theorem ticks_none (hI : M.Inv' d) (hR : RefAt X g d) (hgq : g < q) (h : PlanIs X q (M.idle d)) (c1 : M.fld d.F 2 = 1) (hm : M.missing d.F = []) :
    Calls Tryz.prog 121 #[.pointer (some ⟨g, 0, none⟩), .pointer (some ⟨q, 0, none⟩)] X fun e w' => Comes X q (M.ticks d) e w' := by
  have hF := hI.2.1.bytes
  have hne : ¬ g = q := by omega
  have H2 : Hid (Calls Tryz.prog 93 #[.pointer (some ⟨g, 0, none⟩), .int .i64 2] X fun e w' => e = .returned (.int .i64 (M.fld d.F 2)) ∧ X = w') := refField_any hR hF 2 (by omega)
  have hwt : d.wait ≤ 8 := hI.2.2.1
  have hnx : d.next ≤ 8 := hI.2.2.2.2.1
  have hag : d.age ≤ 5 := hI.2.2.2.2.2.1
  have HRF := hide hR
  have HPL : Hid (PlanAt X q [] 0 0 ⟨#[]⟩ (-1) d.wait d.next d.age d.on) := h
  have hql := PlanAt.ref h
  have hgl := hR.lt
  obtain ⟨a, ha⟩ := hI.2.1.man c1
  have HMI := hide (refMissing_any hR hF ha)
  have HE1 : Hid (M.ticks d = M.installs d) := by show _ = _; unfold M.ticks; rw [if_neg (by omega), if_pos c1, hm]
  have HIN : Hid (∀ Y : World, RefAt Y g d → PlanIs Y q (M.idle d) → Calls Tryz.prog 145 #[.pointer (some ⟨g, 0, none⟩), .pointer (some ⟨q, 0, none⟩)] Y fun e w' => Comes Y q (M.installs d) e w') := fun Y hY hP => refInstalls_any hI hY hgq hP c1
  clear hI hR h hF ha
  rw [c1] at H2
  rw [hm] at HMI
  go_enter Tryz.func121, Tryz.ntmps121
  (go_wp2_with fail); (refine (unhide H2).mono ?_); (rintro e w' ⟨rfl, rfl⟩)
  go_wp2_with fail
  refine (unhide HMI).mono ?_
  rintro e w1 ⟨v, rfl, hown, hb1⟩
  obtain ⟨ao, cap, hv, -⟩ := (holdsRow_own hown).shape
  subst hv
  have HP1 : Hid (PlanIs w1 q (M.idle d)) := PlanAt.kept (unhide HPL) hb1
  have HR1 := hide ((unhide HRF).kept hb1)
  have HB1 := hide (hb1.mono (Nat.le_of_lt hql))
  clear hb1 hown HMI
  have hl0 : (natI []).length = 0 := rfl
  generalize (natI []).length = ln at *
  subst hl0
  go_wp2_with fail
  with_reducible refine (unhide HIN _ (unhide HR1) (unhide HP1)).mono ?_
  rintro e w2 ⟨rfl, hp2, hb2⟩
  have HP2 := hide hp2
  have HB2 := hide ((unhide HB1).trans hb2)
  clear hp2 hb2
  go_wp2
  refine bodyPost_ret (v := .tuple #[]) (by simp [results, Tryz.results121, go_sem]) rfl ⟨rfl, ?_, unhide HB2⟩
  rw [HE1.out]
  exact unhide HP2
set_option maxRecDepth 10000 in
set_option maxHeartbeats 1000000 in
theorem ticks_wait (hI : M.Inv' d) (hR : RefAt X g d) (hgq : g < q) (h : PlanIs X q (M.idle d)) (c1 : M.fld d.F 2 = 1) (i : Nat) (l : List Nat) (hm : M.missing d.F = i :: l) (cw : ¬ d.wait ≤ 1) :
    Calls Tryz.prog 121 #[.pointer (some ⟨g, 0, none⟩), .pointer (some ⟨q, 0, none⟩)] X fun e w' => Comes X q (M.ticks d) e w' := by
  have hF := hI.2.1.bytes
  have hne : ¬ g = q := by omega
  have H2 : Hid (Calls Tryz.prog 93 #[.pointer (some ⟨g, 0, none⟩), .int .i64 2] X fun e w' => e = .returned (.int .i64 (M.fld d.F 2)) ∧ X = w') := refField_any hR hF 2 (by omega)
  have hwt : d.wait ≤ 8 := hI.2.2.1
  have hnx : d.next ≤ 8 := hI.2.2.2.2.1
  have hag : d.age ≤ 5 := hI.2.2.2.2.2.1
  have HRF := hide hR
  have HPL : Hid (PlanAt X q [] 0 0 ⟨#[]⟩ (-1) d.wait d.next d.age d.on) := h
  have hql := PlanAt.ref h
  have hgl := hR.lt
  obtain ⟨a, ha⟩ := hI.2.1.man c1
  have HMI := hide (refMissing_any hR hF ha)
  have HE1 : Hid (M.ticks d = ⟨[], 0, ⟨#[]⟩, -1, d.wait - 1, d.next, d.age, d.on⟩) := by
    show _ = _
    unfold M.ticks
    rw [if_neg (by omega), if_pos c1, hm]
    show (if d.wait ≤ 1 then _ else _ : M.Plan) = _
    rw [if_neg cw]
  have hlm : (M.missing d.F).length ≤ 1000 := by
    unfold M.missing
    refine Nat.le_trans (List.length_filter_le _ _) ?_
    have := (M.sealOf_le ha).2.2.2.1
    simp
    unfold M.chunksN
    omega
  have hi0 : (natI (M.missing d.F))[0]? = some (i : Int) := by rw [hm]; rfl
  have hln : 1 ≤ (natI (M.missing d.F)).length := by rw [hm, natI_length]; simp
  have hln2 : (natI (M.missing d.F)).length ≤ 1000 := by rw [natI_length]; exact hlm
  clear hI h hF ha hm hlm
  rw [c1] at H2
  generalize natI (M.missing d.F) = L at *
  go_enter Tryz.func121, Tryz.ntmps121
  (go_wp2_with fail); (refine (unhide H2).mono ?_); (rintro e w' ⟨rfl, rfl⟩)
  go_wp2_with fail
  refine (unhide HMI).mono ?_
  rintro e w1 ⟨v, rfl, hown, hb1⟩
  obtain ⟨ao, cap, hv, -, -, hcell⟩ := (holdsRow_own hown).shape
  subst hv
  obtain ⟨gm, rfl, hgm, hcs⟩ := hcell (by omega)
  have hc0 : w1.cell? ⟨gm, 0, none⟩ = some (.int .i64 i) := hcs 0 _ (by unfold intCells; rw [List.getElem?_map, hi0]; rfl)
  have HP1 := hide ((unhide HPL).kept hb1)
  have HR1 := hide ((unhide HRF).kept hb1)
  have HB1 := hide (hb1.mono (Nat.le_of_lt hql))
  obtain ⟨⟨ao', ca, to, ct, hxq⟩, hfq⟩ := (unhide HP1).facts
  have hxn := (unhide HR1).nextC
  have hq1 := (unhide HP1).ref
  have hmq : ¬ gm = q := by
    rintro rfl
    have := hown.lt gm rfl
    omega
  have hmq2 : ¬ q = gm := fun e => hmq e.symm
  have hne2 : ¬ q = g := fun e => hne e.symm
  clear hb1 hown HMI hcs hcell
  generalize L.length = ln at *
  have hln3 : (0 : Int) < (ln : Int) := by omega
  have hln4 : ¬ (ln : Int) = 0 := by omega
  have HPf : Hid (PlanAt (w1.setCell ⟨q, 6, none⟩ (.int .i64 ((d.wait : Int) - 1))) q [] 0 0 ⟨#[]⟩ (-1) ((d.wait - 1 : Nat) : Int) d.next d.age d.on) := by
    have := (unhide HP1).setWait ((d.wait : Int) - 1)
    rw [show ((d.wait - 1 : Nat) : Int) = (d.wait : Int) - 1 from by omega]
    exact this
  have HBf := hide (low_set (o := 6) (v := .int .i64 ((d.wait : Int) - 1)) (unhide HB1))
  generalize d.wait = wt at *
  have w1' : (0 : Int) < (wt : Int) := by omega
  have w2' : (0 : Int) < (wt : Int) - 1 := by omega
  go_wp2
  refine bodyPost_ret (v := .tuple #[]) (by simp [results, Tryz.results121, go_sem]) rfl ⟨rfl, ?_, unhide HBf⟩
  rw [HE1.out]
  exact unhide HPf
set_option maxRecDepth 10000 in
set_option maxHeartbeats 1000000 in
theorem ticks_ask0 (hI : M.Inv' d) (hR : RefAt X g d) (hgq : g < q) (h : PlanIs X q (M.idle d)) (c1 : M.fld d.F 2 = 1) (i : Nat) (l : List Nat) (hm : M.missing d.F = i :: l) (cw : d.wait = 0) (cn : ¬ 8 < 2 * d.next) :
    Calls Tryz.prog 121 #[.pointer (some ⟨g, 0, none⟩), .pointer (some ⟨q, 0, none⟩)] X fun e w' => Comes X q (M.ticks d) e w' := by
  have hF := hI.2.1.bytes
  have hne : ¬ g = q := by omega
  have H2 : Hid (Calls Tryz.prog 93 #[.pointer (some ⟨g, 0, none⟩), .int .i64 2] X fun e w' => e = .returned (.int .i64 (M.fld d.F 2)) ∧ X = w') := refField_any hR hF 2 (by omega)
  have hwt : d.wait ≤ 8 := hI.2.2.1
  have hnx : d.next ≤ 8 := hI.2.2.2.2.1
  have hag : d.age ≤ 5 := hI.2.2.2.2.2.1
  have HRF := hide hR
  have HPL : Hid (PlanAt X q [] 0 0 ⟨#[]⟩ (-1) d.wait d.next d.age d.on) := h
  have hql := PlanAt.ref h
  have hgl := hR.lt
  obtain ⟨a, ha⟩ := hI.2.1.man c1
  have HMI := hide (refMissing_any hR hF ha)
  have HE1 : Hid (M.ticks d = ⟨[], 0, ⟨#[]⟩, i, d.next, 2 * d.next, d.age, d.on⟩) := by
    show _ = _
    unfold M.ticks
    rw [if_neg (by omega), if_pos c1, hm]
    show (if d.wait ≤ 1 then _ else _ : M.Plan) = _
    rw [if_pos (by omega), show min 8 (2 * d.next) = 2 * d.next from by omega]
  have hlm : (M.missing d.F).length ≤ 1000 := by
    unfold M.missing
    refine Nat.le_trans (List.length_filter_le _ _) ?_
    have := (M.sealOf_le ha).2.2.2.1
    simp
    unfold M.chunksN
    omega
  have hi0 : (natI (M.missing d.F))[0]? = some (i : Int) := by rw [hm]; rfl
  have hln : 1 ≤ (natI (M.missing d.F)).length := by rw [hm, natI_length]; simp
  have hln2 : (natI (M.missing d.F)).length ≤ 1000 := by rw [natI_length]; exact hlm
  clear hI h hF ha hm hlm
  rw [c1] at H2
  generalize natI (M.missing d.F) = L at *
  go_enter Tryz.func121, Tryz.ntmps121
  (go_wp2_with fail); (refine (unhide H2).mono ?_); (rintro e w' ⟨rfl, rfl⟩)
  go_wp2_with fail
  refine (unhide HMI).mono ?_
  rintro e w1 ⟨v, rfl, hown, hb1⟩
  obtain ⟨ao, cap, hv, -, -, hcell⟩ := (holdsRow_own hown).shape
  subst hv
  obtain ⟨gm, rfl, hgm, hcs⟩ := hcell (by omega)
  have hc0 : w1.cell? ⟨gm, 0, none⟩ = some (.int .i64 i) := hcs 0 _ (by unfold intCells; rw [List.getElem?_map, hi0]; rfl)
  have HP1 := hide ((unhide HPL).kept hb1)
  have HR1 := hide ((unhide HRF).kept hb1)
  have HB1 := hide (hb1.mono (Nat.le_of_lt hql))
  obtain ⟨⟨ao', ca, to, ct, hxq⟩, hfq⟩ := (unhide HP1).facts
  have hxn := (unhide HR1).nextC
  have hq1 := (unhide HP1).ref
  have hmq : ¬ gm = q := by
    rintro rfl
    have := hown.lt gm rfl
    omega
  have hmq2 : ¬ q = gm := fun e => hmq e.symm
  have hne2 : ¬ q = g := fun e => hne e.symm
  clear hb1 hown HMI hcs hcell
  generalize L.length = ln at *
  have hln3 : (0 : Int) < (ln : Int) := by omega
  have hln4 : ¬ (ln : Int) = 0 := by omega
  rw [cw] at hxq
  have HPf := hide (((((unhide HP1).setAsk i).setWait d.next).setNext (2 * (d.next : Int))))
  have HBf := hide (low_set (o := 7) (v := .int .i64 (2 * (d.next : Int))) (low_set (o := 6) (v := .int .i64 d.next) (low_set (o := 5) (v := .int .i64 i) (unhide HB1))))
  have hpn : Hid (((2 * d.next : Nat) : Int) = 2 * (d.next : Int)) := by show _ = _; omega
  generalize d.next = nx at *
  have c8 : ¬ (8 : Int) < 2 * (nx : Int) := by omega
  go_wp2
  refine bodyPost_end (v := .tuple #[]) (by simp [results, Tryz.results121, go_sem]) rfl ⟨rfl, ?_, unhide HBf⟩
  rw [HE1.out]
  unfold PlanIs
  dsimp only
  rw [hpn.out]
  exact unhide HPf
set_option maxRecDepth 10000 in
set_option maxHeartbeats 1000000 in
theorem ticks_ask0b (hI : M.Inv' d) (hR : RefAt X g d) (hgq : g < q) (h : PlanIs X q (M.idle d)) (c1 : M.fld d.F 2 = 1) (i : Nat) (l : List Nat) (hm : M.missing d.F = i :: l) (cw : d.wait = 0) (cn : 8 < 2 * d.next) :
    Calls Tryz.prog 121 #[.pointer (some ⟨g, 0, none⟩), .pointer (some ⟨q, 0, none⟩)] X fun e w' => Comes X q (M.ticks d) e w' := by
  have hF := hI.2.1.bytes
  have hne : ¬ g = q := by omega
  have H2 : Hid (Calls Tryz.prog 93 #[.pointer (some ⟨g, 0, none⟩), .int .i64 2] X fun e w' => e = .returned (.int .i64 (M.fld d.F 2)) ∧ X = w') := refField_any hR hF 2 (by omega)
  have hwt : d.wait ≤ 8 := hI.2.2.1
  have hnx : d.next ≤ 8 := hI.2.2.2.2.1
  have hag : d.age ≤ 5 := hI.2.2.2.2.2.1
  have HRF := hide hR
  have HPL : Hid (PlanAt X q [] 0 0 ⟨#[]⟩ (-1) d.wait d.next d.age d.on) := h
  have hql := PlanAt.ref h
  have hgl := hR.lt
  obtain ⟨a, ha⟩ := hI.2.1.man c1
  have HMI := hide (refMissing_any hR hF ha)
  have HE1 : Hid (M.ticks d = ⟨[], 0, ⟨#[]⟩, i, d.next, 8, d.age, d.on⟩) := by
    show _ = _
    unfold M.ticks
    rw [if_neg (by omega), if_pos c1, hm]
    show (if d.wait ≤ 1 then _ else _ : M.Plan) = _
    rw [if_pos (by omega), show min 8 (2 * d.next) = 8 from by omega]
  have hlm : (M.missing d.F).length ≤ 1000 := by
    unfold M.missing
    refine Nat.le_trans (List.length_filter_le _ _) ?_
    have := (M.sealOf_le ha).2.2.2.1
    simp
    unfold M.chunksN
    omega
  have hi0 : (natI (M.missing d.F))[0]? = some (i : Int) := by rw [hm]; rfl
  have hln : 1 ≤ (natI (M.missing d.F)).length := by rw [hm, natI_length]; simp
  have hln2 : (natI (M.missing d.F)).length ≤ 1000 := by rw [natI_length]; exact hlm
  clear hI h hF ha hm hlm
  rw [c1] at H2
  generalize natI (M.missing d.F) = L at *
  go_enter Tryz.func121, Tryz.ntmps121
  (go_wp2_with fail); (refine (unhide H2).mono ?_); (rintro e w' ⟨rfl, rfl⟩)
  go_wp2_with fail
  refine (unhide HMI).mono ?_
  rintro e w1 ⟨v, rfl, hown, hb1⟩
  obtain ⟨ao, cap, hv, -, -, hcell⟩ := (holdsRow_own hown).shape
  subst hv
  obtain ⟨gm, rfl, hgm, hcs⟩ := hcell (by omega)
  have hc0 : w1.cell? ⟨gm, 0, none⟩ = some (.int .i64 i) := hcs 0 _ (by unfold intCells; rw [List.getElem?_map, hi0]; rfl)
  have HP1 := hide ((unhide HPL).kept hb1)
  have HR1 := hide ((unhide HRF).kept hb1)
  have HB1 := hide (hb1.mono (Nat.le_of_lt hql))
  obtain ⟨⟨ao', ca, to, ct, hxq⟩, hfq⟩ := (unhide HP1).facts
  have hxn := (unhide HR1).nextC
  have hq1 := (unhide HP1).ref
  have hmq : ¬ gm = q := by
    rintro rfl
    have := hown.lt gm rfl
    omega
  have hmq2 : ¬ q = gm := fun e => hmq e.symm
  have hne2 : ¬ q = g := fun e => hne e.symm
  clear hb1 hown HMI hcs hcell
  generalize L.length = ln at *
  have hln3 : (0 : Int) < (ln : Int) := by omega
  have hln4 : ¬ (ln : Int) = 0 := by omega
  rw [cw] at hxq
  have HPf := hide (((((unhide HP1).setAsk i).setWait d.next).setNext (2 * (d.next : Int))).setNext 8)
  have HBf := hide (low_set (o := 7) (v := .int .i64 8) (low_set (o := 7) (v := .int .i64 (2 * (d.next : Int))) (low_set (o := 6) (v := .int .i64 d.next) (low_set (o := 5) (v := .int .i64 i) (unhide HB1)))))
  have hpn : Hid (((2 * d.next : Nat) : Int) = 2 * (d.next : Int)) := by show _ = _; omega
  generalize d.next = nx at *
  have c8 : (8 : Int) < 2 * (nx : Int) := by omega
  go_wp2
  refine bodyPost_end (v := .tuple #[]) (by simp [results, Tryz.results121, go_sem]) rfl ⟨rfl, ?_, unhide HBf⟩
  rw [HE1.out]
  unfold PlanIs
  dsimp only
  exact unhide HPf
set_option maxRecDepth 10000 in
set_option maxHeartbeats 1000000 in
theorem ticks_ask1 (hI : M.Inv' d) (hR : RefAt X g d) (hgq : g < q) (h : PlanIs X q (M.idle d)) (c1 : M.fld d.F 2 = 1) (i : Nat) (l : List Nat) (hm : M.missing d.F = i :: l) (cw : d.wait = 1) (cn : ¬ 8 < 2 * d.next) :
    Calls Tryz.prog 121 #[.pointer (some ⟨g, 0, none⟩), .pointer (some ⟨q, 0, none⟩)] X fun e w' => Comes X q (M.ticks d) e w' := by
  have hF := hI.2.1.bytes
  have hne : ¬ g = q := by omega
  have H2 : Hid (Calls Tryz.prog 93 #[.pointer (some ⟨g, 0, none⟩), .int .i64 2] X fun e w' => e = .returned (.int .i64 (M.fld d.F 2)) ∧ X = w') := refField_any hR hF 2 (by omega)
  have hwt : d.wait ≤ 8 := hI.2.2.1
  have hnx : d.next ≤ 8 := hI.2.2.2.2.1
  have hag : d.age ≤ 5 := hI.2.2.2.2.2.1
  have HRF := hide hR
  have HPL : Hid (PlanAt X q [] 0 0 ⟨#[]⟩ (-1) d.wait d.next d.age d.on) := h
  have hql := PlanAt.ref h
  have hgl := hR.lt
  obtain ⟨a, ha⟩ := hI.2.1.man c1
  have HMI := hide (refMissing_any hR hF ha)
  have HE1 : Hid (M.ticks d = ⟨[], 0, ⟨#[]⟩, i, d.next, 2 * d.next, d.age, d.on⟩) := by
    show _ = _
    unfold M.ticks
    rw [if_neg (by omega), if_pos c1, hm]
    show (if d.wait ≤ 1 then _ else _ : M.Plan) = _
    rw [if_pos (by omega), show min 8 (2 * d.next) = 2 * d.next from by omega]
  have hlm : (M.missing d.F).length ≤ 1000 := by
    unfold M.missing
    refine Nat.le_trans (List.length_filter_le _ _) ?_
    have := (M.sealOf_le ha).2.2.2.1
    simp
    unfold M.chunksN
    omega
  have hi0 : (natI (M.missing d.F))[0]? = some (i : Int) := by rw [hm]; rfl
  have hln : 1 ≤ (natI (M.missing d.F)).length := by rw [hm, natI_length]; simp
  have hln2 : (natI (M.missing d.F)).length ≤ 1000 := by rw [natI_length]; exact hlm
  clear hI h hF ha hm hlm
  rw [c1] at H2
  generalize natI (M.missing d.F) = L at *
  go_enter Tryz.func121, Tryz.ntmps121
  (go_wp2_with fail); (refine (unhide H2).mono ?_); (rintro e w' ⟨rfl, rfl⟩)
  go_wp2_with fail
  refine (unhide HMI).mono ?_
  rintro e w1 ⟨v, rfl, hown, hb1⟩
  obtain ⟨ao, cap, hv, -, -, hcell⟩ := (holdsRow_own hown).shape
  subst hv
  obtain ⟨gm, rfl, hgm, hcs⟩ := hcell (by omega)
  have hc0 : w1.cell? ⟨gm, 0, none⟩ = some (.int .i64 i) := hcs 0 _ (by unfold intCells; rw [List.getElem?_map, hi0]; rfl)
  have HP1 := hide ((unhide HPL).kept hb1)
  have HR1 := hide ((unhide HRF).kept hb1)
  have HB1 := hide (hb1.mono (Nat.le_of_lt hql))
  obtain ⟨⟨ao', ca, to, ct, hxq⟩, hfq⟩ := (unhide HP1).facts
  have hxn := (unhide HR1).nextC
  have hq1 := (unhide HP1).ref
  have hmq : ¬ gm = q := by
    rintro rfl
    have := hown.lt gm rfl
    omega
  have hmq2 : ¬ q = gm := fun e => hmq e.symm
  have hne2 : ¬ q = g := fun e => hne e.symm
  clear hb1 hown HMI hcs hcell
  generalize L.length = ln at *
  have hln3 : (0 : Int) < (ln : Int) := by omega
  have hln4 : ¬ (ln : Int) = 0 := by omega
  rw [cw] at hxq
  have HPf := hide ((((((unhide HP1).setWait 0).setAsk i).setWait d.next).setNext (2 * (d.next : Int))))
  have HBf := hide (low_set (o := 7) (v := .int .i64 (2 * (d.next : Int))) (low_set (o := 6) (v := .int .i64 d.next) (low_set (o := 5) (v := .int .i64 i) (low_set (o := 6) (v := .int .i64 0) (unhide HB1)))))
  have hpn : Hid (((2 * d.next : Nat) : Int) = 2 * (d.next : Int)) := by show _ = _; omega
  generalize d.next = nx at *
  have c8 : ¬ (8 : Int) < 2 * (nx : Int) := by omega
  go_wp2
  refine bodyPost_end (v := .tuple #[]) (by simp [results, Tryz.results121, go_sem]) rfl ⟨rfl, ?_, unhide HBf⟩
  rw [HE1.out]
  unfold PlanIs
  dsimp only
  rw [hpn.out]
  exact unhide HPf
set_option maxRecDepth 10000 in
set_option maxHeartbeats 1000000 in
theorem ticks_ask1b (hI : M.Inv' d) (hR : RefAt X g d) (hgq : g < q) (h : PlanIs X q (M.idle d)) (c1 : M.fld d.F 2 = 1) (i : Nat) (l : List Nat) (hm : M.missing d.F = i :: l) (cw : d.wait = 1) (cn : 8 < 2 * d.next) :
    Calls Tryz.prog 121 #[.pointer (some ⟨g, 0, none⟩), .pointer (some ⟨q, 0, none⟩)] X fun e w' => Comes X q (M.ticks d) e w' := by
  have hF := hI.2.1.bytes
  have hne : ¬ g = q := by omega
  have H2 : Hid (Calls Tryz.prog 93 #[.pointer (some ⟨g, 0, none⟩), .int .i64 2] X fun e w' => e = .returned (.int .i64 (M.fld d.F 2)) ∧ X = w') := refField_any hR hF 2 (by omega)
  have hwt : d.wait ≤ 8 := hI.2.2.1
  have hnx : d.next ≤ 8 := hI.2.2.2.2.1
  have hag : d.age ≤ 5 := hI.2.2.2.2.2.1
  have HRF := hide hR
  have HPL : Hid (PlanAt X q [] 0 0 ⟨#[]⟩ (-1) d.wait d.next d.age d.on) := h
  have hql := PlanAt.ref h
  have hgl := hR.lt
  obtain ⟨a, ha⟩ := hI.2.1.man c1
  have HMI := hide (refMissing_any hR hF ha)
  have HE1 : Hid (M.ticks d = ⟨[], 0, ⟨#[]⟩, i, d.next, 8, d.age, d.on⟩) := by
    show _ = _
    unfold M.ticks
    rw [if_neg (by omega), if_pos c1, hm]
    show (if d.wait ≤ 1 then _ else _ : M.Plan) = _
    rw [if_pos (by omega), show min 8 (2 * d.next) = 8 from by omega]
  have hlm : (M.missing d.F).length ≤ 1000 := by
    unfold M.missing
    refine Nat.le_trans (List.length_filter_le _ _) ?_
    have := (M.sealOf_le ha).2.2.2.1
    simp
    unfold M.chunksN
    omega
  have hi0 : (natI (M.missing d.F))[0]? = some (i : Int) := by rw [hm]; rfl
  have hln : 1 ≤ (natI (M.missing d.F)).length := by rw [hm, natI_length]; simp
  have hln2 : (natI (M.missing d.F)).length ≤ 1000 := by rw [natI_length]; exact hlm
  clear hI h hF ha hm hlm
  rw [c1] at H2
  generalize natI (M.missing d.F) = L at *
  go_enter Tryz.func121, Tryz.ntmps121
  (go_wp2_with fail); (refine (unhide H2).mono ?_); (rintro e w' ⟨rfl, rfl⟩)
  go_wp2_with fail
  refine (unhide HMI).mono ?_
  rintro e w1 ⟨v, rfl, hown, hb1⟩
  obtain ⟨ao, cap, hv, -, -, hcell⟩ := (holdsRow_own hown).shape
  subst hv
  obtain ⟨gm, rfl, hgm, hcs⟩ := hcell (by omega)
  have hc0 : w1.cell? ⟨gm, 0, none⟩ = some (.int .i64 i) := hcs 0 _ (by unfold intCells; rw [List.getElem?_map, hi0]; rfl)
  have HP1 := hide ((unhide HPL).kept hb1)
  have HR1 := hide ((unhide HRF).kept hb1)
  have HB1 := hide (hb1.mono (Nat.le_of_lt hql))
  obtain ⟨⟨ao', ca, to, ct, hxq⟩, hfq⟩ := (unhide HP1).facts
  have hxn := (unhide HR1).nextC
  have hq1 := (unhide HP1).ref
  have hmq : ¬ gm = q := by
    rintro rfl
    have := hown.lt gm rfl
    omega
  have hmq2 : ¬ q = gm := fun e => hmq e.symm
  have hne2 : ¬ q = g := fun e => hne e.symm
  clear hb1 hown HMI hcs hcell
  generalize L.length = ln at *
  have hln3 : (0 : Int) < (ln : Int) := by omega
  have hln4 : ¬ (ln : Int) = 0 := by omega
  rw [cw] at hxq
  have HPf := hide ((((((unhide HP1).setWait 0).setAsk i).setWait d.next).setNext (2 * (d.next : Int))).setNext 8)
  have HBf := hide (low_set (o := 7) (v := .int .i64 8) (low_set (o := 7) (v := .int .i64 (2 * (d.next : Int))) (low_set (o := 6) (v := .int .i64 d.next) (low_set (o := 5) (v := .int .i64 i) (low_set (o := 6) (v := .int .i64 0) (unhide HB1))))))
  have hpn : Hid (((2 * d.next : Nat) : Int) = 2 * (d.next : Int)) := by show _ = _; omega
  generalize d.next = nx at *
  have c8 : (8 : Int) < 2 * (nx : Int) := by omega
  go_wp2
  refine bodyPost_end (v := .tuple #[]) (by simp [results, Tryz.results121, go_sem]) rfl ⟨rfl, ?_, unhide HBf⟩
  rw [HE1.out]
  unfold PlanIs
  dsimp only
  exact unhide HPf
/-- a tick comes to what it should -/
theorem refTicks_any (hI : M.Inv' d) (hR : RefAt X g d) (hgq : g < q) (h : PlanIs X q (M.idle d)) :
    Calls Tryz.prog 121 #[.pointer (some ⟨g, 0, none⟩), .pointer (some ⟨q, 0, none⟩)] X fun e w' => Comes X q (M.ticks d) e w' := by
  by_cases c2 : M.fld d.F 2 = 2
  · by_cases c5 : 5 ≤ d.age + 1
    · exact ticks_old hI hR hgq h c2 c5
    · exact ticks_young hI hR hgq h c2 c5
  by_cases c1 : M.fld d.F 2 = 1
  · cases hm : M.missing d.F with
    | nil => exact ticks_none hI hR hgq h c1 hm
    | cons i l =>
      by_cases cw : d.wait ≤ 1
      · by_cases w0 : d.wait = 0
        · by_cases cn : 8 < 2 * d.next
          · exact ticks_ask0b hI hR hgq h c1 i l hm w0 cn
          · exact ticks_ask0 hI hR hgq h c1 i l hm w0 cn
        · by_cases cn : 8 < 2 * d.next
          · exact ticks_ask1b hI hR hgq h c1 i l hm (by omega) cn
          · exact ticks_ask1 hI hR hgq h c1 i l hm (by omega) cn
      · exact ticks_wait hI hR hgq h c1 i l hm cw
  · exact ticks_steady hI hR hgq h c2 c1
end
end Go.Proofs.YtjfmiomopfjecabGreat

/- The document's device: what an event would come to. -/
namespace Go.Proofs.YtjfmiomopfjecabGreat
open Go.RowKit Go.Lib

theorem gen_worldR {Q : World → Prop} {Z : World} (Φ : World → Prop) (h1 : Φ Z) (h2 : ∀ Z, Φ Z → Q Z) : Q Z := h2 Z h1
/-- so 'planned' answers: with a plan of its own -/
def PlansTo (X : World) (p : M.Plan) (y : Ending) (w' : World) : Prop := ∃ q, y = .returned (.pointer (some ⟨q, 0, none⟩)) ∧ X.heap.size ≤ q ∧ PlanIs w' q p ∧ Below X.heap.size X w'
theorem evalNum_nat (s i : ByteArray) : ((evalNum s i).toNat : Int) = evalNum s i := by
  unfold evalNum
  split
  · split <;> rfl
  · rfl
section
variable {X : World} {g : Nat} {d : M.Dev}
set_option maxRecDepth 10000 in
set_option maxHeartbeats 2000000 in
theorem planned_low (hR : RefAt X g d) (kd n : Int) (tx : ByteArray) (cut torn : Int) (hk : kd < 1) :
    Calls Tryz.prog 89 #[.pointer (some ⟨g, 0, none⟩), .agg #[.int .i64 kd, .int .i64 n, .string tx, .int .i64 cut, .int .i64 torn]] X fun y w' => PlansTo X (M.fails d 7) y w' := by
  have HFA : Hid (∀ (Y : World) (q e : Nat) (c : Int), c = e → PlanIs Y q (M.idle d) → Calls Tryz.prog 119 #[.pointer (some ⟨q, 0, none⟩), .int .i64 c] Y fun y w' => y = .returned (.tuple #[]) ∧ PlanIs w' q (M.fails d e) ∧ Below q Y w') := by
    rintro Y q e c rfl hY
    exact refFails_any hY e
  have HRF := hide hR
  have hgl := hR.lt
  have c1 := hR.onC
  have c2 := hR.waitC
  have c3 := hR.nextC
  have c4 := hR.ageC
  have l1 : g < X.heap.size := (by omega); have n1 : ¬ g = X.heap.size := (by omega)
  clear hR
  go_enter Tryz.func89, Tryz.ntmps89
  go_wp2_with fail
  go_region
  refine gen_worldR (Q := Exit.then _ _ Exit.normal _) (fun Z => Z.heap[X.heap.size]? = some (.cells #[.int .i64 kd, .int .i64 n, .string tx, .int .i64 cut, .int .i64 torn] 86 (0, 0)) ∧ PlanIs Z (X.heap.size + 1) (M.idle d) ∧ RefAt Z g d ∧ Below X.heap.size X Z) ?_ ?_
  · refine ⟨?_, ⟨none, 0, none, 0, ?_, World.ownsRow_nil _ _ _ _, World.ownsRow_nil _ _ _ _⟩, ?_, ?_⟩
    · repeat (first | with_reducible exact first_block _ _ _ | with_reducible refine drew_block ?_)
    · repeat (first | with_reducible exact last_block _ _ (by simp) | exact last_block _ _ (by simp) | with_reducible refine drew_block ?_)
    · refine (unhide HRF).kept ?_
      repeat (first | with_reducible exact Below.refl _ _ | with_reducible refine bdrew ?_ | (with_reducible refine balloc ?_ ?_; (focus (first | omega | (simp; done) | (simp; omega)))))
    · repeat (first | with_reducible exact Below.refl _ _ | with_reducible refine bdrew ?_ | (with_reducible refine balloc ?_ ?_; (focus (first | omega | (simp; done) | (simp; omega)))))
  · rintro Z ⟨kE, hP, hZ, hB⟩
    obtain ⟨hxE, hfE⟩ := block_facts kE
    have KE := hide kE
    have HPZ := hide hP
    have HRZ := hide hZ
    have HBZ := hide hB
    have hx2 := hZ.onC
    have hlZ := PlanAt.ref hP
    clear kE hP hZ hB c1 c2 c3 c4
    have hgq : g < X.heap.size + 1 := by omega
    have hqX : X.heap.size ≤ X.heap.size + 1 := by omega
    have HBZ1 := HBZ
    generalize X.heap.size + 1 = q at *
    go_wp2_with fail
    with_reducible refine (unhide HFA _ _ 7 7 rfl (unhide HPZ)).mono ?_
    rintro e w9 ⟨rfl, hp9, hb9⟩
    have HP9 := hide hp9
    have HB9 := hide ((unhide HBZ).trans (hb9.mono (by omega)))
    clear hp9 hb9
    go_wp2
    go_ret
    exact ⟨q, rfl, by omega, unhide HP9, unhide HB9⟩
set_option maxRecDepth 10000 in
set_option maxHeartbeats 2000000 in
theorem planned_high (hR : RefAt X g d) (kd n : Int) (tx : ByteArray) (cut torn : Int) (hk : 7 < kd) (hk1 : ¬ kd < 1) :
    Calls Tryz.prog 89 #[.pointer (some ⟨g, 0, none⟩), .agg #[.int .i64 kd, .int .i64 n, .string tx, .int .i64 cut, .int .i64 torn]] X fun y w' => PlansTo X (M.fails d 7) y w' := by
  have HFA : Hid (∀ (Y : World) (q e : Nat) (c : Int), c = e → PlanIs Y q (M.idle d) → Calls Tryz.prog 119 #[.pointer (some ⟨q, 0, none⟩), .int .i64 c] Y fun y w' => y = .returned (.tuple #[]) ∧ PlanIs w' q (M.fails d e) ∧ Below q Y w') := by
    rintro Y q e c rfl hY
    exact refFails_any hY e
  have HRF := hide hR
  have hgl := hR.lt
  have c1 := hR.onC
  have c2 := hR.waitC
  have c3 := hR.nextC
  have c4 := hR.ageC
  have l1 : g < X.heap.size := (by omega); have n1 : ¬ g = X.heap.size := (by omega)
  clear hR
  go_enter Tryz.func89, Tryz.ntmps89
  go_wp2_with fail
  go_region
  refine gen_worldR (Q := Exit.then _ _ Exit.normal _) (fun Z => Z.heap[X.heap.size]? = some (.cells #[.int .i64 kd, .int .i64 n, .string tx, .int .i64 cut, .int .i64 torn] 86 (0, 0)) ∧ PlanIs Z (X.heap.size + 1) (M.idle d) ∧ RefAt Z g d ∧ Below X.heap.size X Z) ?_ ?_
  · refine ⟨?_, ⟨none, 0, none, 0, ?_, World.ownsRow_nil _ _ _ _, World.ownsRow_nil _ _ _ _⟩, ?_, ?_⟩
    · repeat (first | with_reducible exact first_block _ _ _ | with_reducible refine drew_block ?_)
    · repeat (first | with_reducible exact last_block _ _ (by simp) | exact last_block _ _ (by simp) | with_reducible refine drew_block ?_)
    · refine (unhide HRF).kept ?_
      repeat (first | with_reducible exact Below.refl _ _ | with_reducible refine bdrew ?_ | (with_reducible refine balloc ?_ ?_; (focus (first | omega | (simp; done) | (simp; omega)))))
    · repeat (first | with_reducible exact Below.refl _ _ | with_reducible refine bdrew ?_ | (with_reducible refine balloc ?_ ?_; (focus (first | omega | (simp; done) | (simp; omega)))))
  · rintro Z ⟨kE, hP, hZ, hB⟩
    obtain ⟨hxE, hfE⟩ := block_facts kE
    have KE := hide kE
    have HPZ := hide hP
    have HRZ := hide hZ
    have HBZ := hide hB
    have hx2 := hZ.onC
    have hlZ := PlanAt.ref hP
    clear kE hP hZ hB c1 c2 c3 c4
    have hgq : g < X.heap.size + 1 := by omega
    have hqX : X.heap.size ≤ X.heap.size + 1 := by omega
    have HBZ1 := HBZ
    generalize X.heap.size + 1 = q at *
    go_wp2_with fail
    with_reducible refine (unhide HFA _ _ 7 7 rfl (unhide HPZ)).mono ?_
    rintro e w9 ⟨rfl, hp9, hb9⟩
    have HP9 := hide hp9
    have HB9 := hide ((unhide HBZ).trans (hb9.mono (by omega)))
    clear hp9 hb9
    go_wp2
    go_ret
    exact ⟨q, rfl, by omega, unhide HP9, unhide HB9⟩
set_option maxRecDepth 10000 in
set_option maxHeartbeats 2000000 in
theorem planned_on (hR : RefAt X g d) (kd n : Int) (tx : ByteArray) (cut torn : Int) (hk : kd = 2) (hon : d.on = true) :
    Calls Tryz.prog 89 #[.pointer (some ⟨g, 0, none⟩), .agg #[.int .i64 kd, .int .i64 n, .string tx, .int .i64 cut, .int .i64 torn]] X fun y w' => PlansTo X (M.fails d 9) y w' := by
  have HFA : Hid (∀ (Y : World) (q e : Nat) (c : Int), c = e → PlanIs Y q (M.idle d) → Calls Tryz.prog 119 #[.pointer (some ⟨q, 0, none⟩), .int .i64 c] Y fun y w' => y = .returned (.tuple #[]) ∧ PlanIs w' q (M.fails d e) ∧ Below q Y w') := by
    rintro Y q e c rfl hY
    exact refFails_any hY e
  have HK := hide hk
  have HON := hide hon
  clear hk hon
  have HRF := hide hR
  have hgl := hR.lt
  have c1 := hR.onC
  have c2 := hR.waitC
  have c3 := hR.nextC
  have c4 := hR.ageC
  have l1 : g < X.heap.size := (by omega); have n1 : ¬ g = X.heap.size := (by omega)
  clear hR
  go_enter Tryz.func89, Tryz.ntmps89
  go_wp2_with fail
  go_region
  refine gen_worldR (Q := Exit.then _ _ Exit.normal _) (fun Z => Z.heap[X.heap.size]? = some (.cells #[.int .i64 kd, .int .i64 n, .string tx, .int .i64 cut, .int .i64 torn] 86 (0, 0)) ∧ PlanIs Z (X.heap.size + 1) (M.idle d) ∧ RefAt Z g d ∧ Below X.heap.size X Z) ?_ ?_
  · refine ⟨?_, ⟨none, 0, none, 0, ?_, World.ownsRow_nil _ _ _ _, World.ownsRow_nil _ _ _ _⟩, ?_, ?_⟩
    · repeat (first | with_reducible exact first_block _ _ _ | with_reducible refine drew_block ?_)
    · repeat (first | with_reducible exact last_block _ _ (by simp) | exact last_block _ _ (by simp) | with_reducible refine drew_block ?_)
    · refine (unhide HRF).kept ?_
      repeat (first | with_reducible exact Below.refl _ _ | with_reducible refine bdrew ?_ | (with_reducible refine balloc ?_ ?_; (focus (first | omega | (simp; done) | (simp; omega)))))
    · repeat (first | with_reducible exact Below.refl _ _ | with_reducible refine bdrew ?_ | (with_reducible refine balloc ?_ ?_; (focus (first | omega | (simp; done) | (simp; omega)))))
  · rintro Z ⟨kE, hP, hZ, hB⟩
    obtain ⟨hxE, hfE⟩ := block_facts kE
    have KE := hide kE
    have HPZ := hide hP
    have HRZ := hide hZ
    have HBZ := hide hB
    have hx2 := hZ.onC
    rw [HON.out] at hx2
    have hk := unhide HK
    subst hk
    have hlZ := PlanAt.ref hP
    clear kE hP hZ hB c1 c2 c3 c4
    have hgq : g < X.heap.size + 1 := by omega
    have hqX : X.heap.size ≤ X.heap.size + 1 := by omega
    have HBZ1 := HBZ
    generalize X.heap.size + 1 = q at *
    go_wp2_with fail
    with_reducible refine (unhide HFA _ _ 9 9 rfl (unhide HPZ)).mono ?_
    rintro e w9 ⟨rfl, hp9, hb9⟩
    have HP9 := hide hp9
    have HB9 := hide ((unhide HBZ).trans (hb9.mono (by omega)))
    clear hp9 hb9
    go_wp2
    go_ret
    exact ⟨q, rfl, by omega, unhide HP9, unhide HB9⟩
set_option maxRecDepth 10000 in
set_option maxHeartbeats 2000000 in
theorem planned_off (hR : RefAt X g d) (kd n : Int) (tx : ByteArray) (cut torn : Int) (hk1 : ¬ kd < 1) (hk7 : ¬ 7 < kd) (hk : ¬ kd = 2) (hon : d.on = false) :
    Calls Tryz.prog 89 #[.pointer (some ⟨g, 0, none⟩), .agg #[.int .i64 kd, .int .i64 n, .string tx, .int .i64 cut, .int .i64 torn]] X fun y w' => PlansTo X (M.fails d 8) y w' := by
  have HFA : Hid (∀ (Y : World) (q e : Nat) (c : Int), c = e → PlanIs Y q (M.idle d) → Calls Tryz.prog 119 #[.pointer (some ⟨q, 0, none⟩), .int .i64 c] Y fun y w' => y = .returned (.tuple #[]) ∧ PlanIs w' q (M.fails d e) ∧ Below q Y w') := by
    rintro Y q e c rfl hY
    exact refFails_any hY e
  have HON := hide hon
  clear hon
  have HRF := hide hR
  have hgl := hR.lt
  have c1 := hR.onC
  have c2 := hR.waitC
  have c3 := hR.nextC
  have c4 := hR.ageC
  have l1 : g < X.heap.size := (by omega); have n1 : ¬ g = X.heap.size := (by omega)
  clear hR
  go_enter Tryz.func89, Tryz.ntmps89
  go_wp2_with fail
  go_region
  refine gen_worldR (Q := Exit.then _ _ Exit.normal _) (fun Z => Z.heap[X.heap.size]? = some (.cells #[.int .i64 kd, .int .i64 n, .string tx, .int .i64 cut, .int .i64 torn] 86 (0, 0)) ∧ PlanIs Z (X.heap.size + 1) (M.idle d) ∧ RefAt Z g d ∧ Below X.heap.size X Z) ?_ ?_
  · refine ⟨?_, ⟨none, 0, none, 0, ?_, World.ownsRow_nil _ _ _ _, World.ownsRow_nil _ _ _ _⟩, ?_, ?_⟩
    · repeat (first | with_reducible exact first_block _ _ _ | with_reducible refine drew_block ?_)
    · repeat (first | with_reducible exact last_block _ _ (by simp) | exact last_block _ _ (by simp) | with_reducible refine drew_block ?_)
    · refine (unhide HRF).kept ?_
      repeat (first | with_reducible exact Below.refl _ _ | with_reducible refine bdrew ?_ | (with_reducible refine balloc ?_ ?_; (focus (first | omega | (simp; done) | (simp; omega)))))
    · repeat (first | with_reducible exact Below.refl _ _ | with_reducible refine bdrew ?_ | (with_reducible refine balloc ?_ ?_; (focus (first | omega | (simp; done) | (simp; omega)))))
  · rintro Z ⟨kE, hP, hZ, hB⟩
    obtain ⟨hxE, hfE⟩ := block_facts kE
    have KE := hide kE
    have HPZ := hide hP
    have HRZ := hide hZ
    have HBZ := hide hB
    have hx2 := hZ.onC
    rw [HON.out] at hx2
    have hlZ := PlanAt.ref hP
    clear kE hP hZ hB c1 c2 c3 c4
    have hgq : g < X.heap.size + 1 := by omega
    have hqX : X.heap.size ≤ X.heap.size + 1 := by omega
    have HBZ1 := HBZ
    generalize X.heap.size + 1 = q at *
    go_wp2_with fail
    with_reducible refine (unhide HFA _ _ 8 8 rfl (unhide HPZ)).mono ?_
    rintro e w9 ⟨rfl, hp9, hb9⟩
    have HP9 := hide hp9
    have HB9 := hide ((unhide HBZ).trans (hb9.mono (by omega)))
    clear hp9 hb9
    go_wp2
    go_ret
    exact ⟨q, rfl, by omega, unhide HP9, unhide HB9⟩
set_option maxRecDepth 10000 in
set_option maxHeartbeats 2000000 in
theorem planned_one (hR : RefAt X g d) (kd n : Int) (tx : ByteArray) (cut torn : Int) (hk : kd = 1) (hon : d.on = true) :
    Calls Tryz.prog 89 #[.pointer (some ⟨g, 0, none⟩), .agg #[.int .i64 kd, .int .i64 n, .string tx, .int .i64 cut, .int .i64 torn]] X fun y w' => PlansTo X ({ M.idle d with on := false }) y w' := by
  have HK := hide hk
  have HON := hide hon
  clear hk hon
  have HRF := hide hR
  have hgl := hR.lt
  have c1 := hR.onC
  have c2 := hR.waitC
  have c3 := hR.nextC
  have c4 := hR.ageC
  have l1 : g < X.heap.size := (by omega); have n1 : ¬ g = X.heap.size := (by omega)
  clear hR
  go_enter Tryz.func89, Tryz.ntmps89
  go_wp2_with fail
  go_region
  refine gen_worldR (Q := Exit.then _ _ Exit.normal _) (fun Z => Z.heap[X.heap.size]? = some (.cells #[.int .i64 kd, .int .i64 n, .string tx, .int .i64 cut, .int .i64 torn] 86 (0, 0)) ∧ PlanIs Z (X.heap.size + 1) (M.idle d) ∧ RefAt Z g d ∧ Below X.heap.size X Z) ?_ ?_
  · refine ⟨?_, ⟨none, 0, none, 0, ?_, World.ownsRow_nil _ _ _ _, World.ownsRow_nil _ _ _ _⟩, ?_, ?_⟩
    · repeat (first | with_reducible exact first_block _ _ _ | with_reducible refine drew_block ?_)
    · repeat (first | with_reducible exact last_block _ _ (by simp) | exact last_block _ _ (by simp) | with_reducible refine drew_block ?_)
    · refine (unhide HRF).kept ?_
      repeat (first | with_reducible exact Below.refl _ _ | with_reducible refine bdrew ?_ | (with_reducible refine balloc ?_ ?_; (focus (first | omega | (simp; done) | (simp; omega)))))
    · repeat (first | with_reducible exact Below.refl _ _ | with_reducible refine bdrew ?_ | (with_reducible refine balloc ?_ ?_; (focus (first | omega | (simp; done) | (simp; omega)))))
  · rintro Z ⟨kE, hP, hZ, hB⟩
    obtain ⟨hxE, hfE⟩ := block_facts kE
    have KE := hide kE
    have HPZ := hide hP
    have HRZ := hide hZ
    have HBZ := hide hB
    have hx2 := hZ.onC
    rw [HON.out] at hx2
    have hk := unhide HK
    subst hk
    have hlZ := PlanAt.ref hP
    clear kE hP hZ hB c1 c2 c3 c4
    have hgq : g < X.heap.size + 1 := by omega
    have hqX : X.heap.size ≤ X.heap.size + 1 := by omega
    have HBZ1 := HBZ
    generalize X.heap.size + 1 = q at *
    have HPf : Hid (PlanIs (Z.setCell ⟨q, 9, none⟩ (.bool false)) q { M.idle d with on := false }) := PlanAt.setOn (unhide HPZ) false
    have HBf := hide (Below.trans (unhide HBZ) ((low_set (o := 9) (v := .bool false) (Below.refl q Z)).mono (by omega)))
    obtain ⟨⟨ao, ca, to, ct, hxq⟩, hfq⟩ := PlanAt.facts (unhide HPZ)
    go_wp2
    go_ret
    exact ⟨q, rfl, by omega, unhide HPf, unhide HBf⟩
set_option maxRecDepth 10000 in
set_option maxHeartbeats 2000000 in
theorem planned_two (hR : RefAt X g d) (kd n : Int) (tx : ByteArray) (cut torn : Int) (hk : kd = 2) (hon : d.on = false) (hI : M.Inv' d) :
    Calls Tryz.prog 89 #[.pointer (some ⟨g, 0, none⟩), .agg #[.int .i64 kd, .int .i64 n, .string tx, .int .i64 cut, .int .i64 torn]] X fun y w' => PlansTo X (M.boots d) y w' := by
  have HEV : Hid (∀ (Y : World) (q : Nat), RefAt Y g d → g < q → PlanIs Y q (M.idle d) → Calls Tryz.prog 120 #[.pointer (some ⟨g, 0, none⟩), .pointer (some ⟨q, 0, none⟩)] Y fun e w' => Comes Y q (M.boots d) e w') := fun Y q hY hq hP => refBoots_any hI hY hq hP
  have HK := hide hk
  have HON := hide hon
  clear hk hon
  have HRF := hide hR
  have hgl := hR.lt
  have c1 := hR.onC
  have c2 := hR.waitC
  have c3 := hR.nextC
  have c4 := hR.ageC
  have l1 : g < X.heap.size := (by omega); have n1 : ¬ g = X.heap.size := (by omega)
  clear hR
  go_enter Tryz.func89, Tryz.ntmps89
  go_wp2_with fail
  go_region
  refine gen_worldR (Q := Exit.then _ _ Exit.normal _) (fun Z => Z.heap[X.heap.size]? = some (.cells #[.int .i64 kd, .int .i64 n, .string tx, .int .i64 cut, .int .i64 torn] 86 (0, 0)) ∧ PlanIs Z (X.heap.size + 1) (M.idle d) ∧ RefAt Z g d ∧ Below X.heap.size X Z) ?_ ?_
  · refine ⟨?_, ⟨none, 0, none, 0, ?_, World.ownsRow_nil _ _ _ _, World.ownsRow_nil _ _ _ _⟩, ?_, ?_⟩
    · repeat (first | with_reducible exact first_block _ _ _ | with_reducible refine drew_block ?_)
    · repeat (first | with_reducible exact last_block _ _ (by simp) | exact last_block _ _ (by simp) | with_reducible refine drew_block ?_)
    · refine (unhide HRF).kept ?_
      repeat (first | with_reducible exact Below.refl _ _ | with_reducible refine bdrew ?_ | (with_reducible refine balloc ?_ ?_; (focus (first | omega | (simp; done) | (simp; omega)))))
    · repeat (first | with_reducible exact Below.refl _ _ | with_reducible refine bdrew ?_ | (with_reducible refine balloc ?_ ?_; (focus (first | omega | (simp; done) | (simp; omega)))))
  · rintro Z ⟨kE, hP, hZ, hB⟩
    obtain ⟨hxE, hfE⟩ := block_facts kE
    have KE := hide kE
    have HPZ := hide hP
    have HRZ := hide hZ
    have HBZ := hide hB
    have hx2 := hZ.onC
    rw [HON.out] at hx2
    have hk := unhide HK
    subst hk
    have hlZ := PlanAt.ref hP
    clear kE hP hZ hB c1 c2 c3 c4
    have hgq : g < X.heap.size + 1 := by omega
    have hqX : X.heap.size ≤ X.heap.size + 1 := by omega
    have HBZ1 := HBZ
    generalize X.heap.size + 1 = q at *
    go_wp2_with fail
    with_reducible refine (unhide HEV _ _ (unhide HRZ) hgq (unhide HPZ)).mono ?_
    rintro e w9 ⟨rfl, hp9, hb9⟩
    have HP9 := hide hp9
    have HB9 := hide ((unhide HBZ).trans (hb9.mono (by omega)))
    clear hp9 hb9
    go_wp2
    go_ret
    exact ⟨q, rfl, by omega, unhide HP9, unhide HB9⟩
set_option maxRecDepth 10000 in
set_option maxHeartbeats 2000000 in
theorem planned_three (hR : RefAt X g d) (kd n : Int) (tx : ByteArray) (cut torn : Int) (hk : kd = 3) (hon : d.on = true) (hI : M.Inv' d) :
    Calls Tryz.prog 89 #[.pointer (some ⟨g, 0, none⟩), .agg #[.int .i64 kd, .int .i64 n, .string tx, .int .i64 cut, .int .i64 torn]] X fun y w' => PlansTo X (M.ticks d) y w' := by
  have HEV : Hid (∀ (Y : World) (q : Nat), RefAt Y g d → g < q → PlanIs Y q (M.idle d) → Calls Tryz.prog 121 #[.pointer (some ⟨g, 0, none⟩), .pointer (some ⟨q, 0, none⟩)] Y fun e w' => Comes Y q (M.ticks d) e w') := fun Y q hY hq hP => refTicks_any hI hY hq hP
  have HK := hide hk
  have HON := hide hon
  clear hk hon
  have HRF := hide hR
  have hgl := hR.lt
  have c1 := hR.onC
  have c2 := hR.waitC
  have c3 := hR.nextC
  have c4 := hR.ageC
  have l1 : g < X.heap.size := (by omega); have n1 : ¬ g = X.heap.size := (by omega)
  clear hR
  go_enter Tryz.func89, Tryz.ntmps89
  go_wp2_with fail
  go_region
  refine gen_worldR (Q := Exit.then _ _ Exit.normal _) (fun Z => Z.heap[X.heap.size]? = some (.cells #[.int .i64 kd, .int .i64 n, .string tx, .int .i64 cut, .int .i64 torn] 86 (0, 0)) ∧ PlanIs Z (X.heap.size + 1) (M.idle d) ∧ RefAt Z g d ∧ Below X.heap.size X Z) ?_ ?_
  · refine ⟨?_, ⟨none, 0, none, 0, ?_, World.ownsRow_nil _ _ _ _, World.ownsRow_nil _ _ _ _⟩, ?_, ?_⟩
    · repeat (first | with_reducible exact first_block _ _ _ | with_reducible refine drew_block ?_)
    · repeat (first | with_reducible exact last_block _ _ (by simp) | exact last_block _ _ (by simp) | with_reducible refine drew_block ?_)
    · refine (unhide HRF).kept ?_
      repeat (first | with_reducible exact Below.refl _ _ | with_reducible refine bdrew ?_ | (with_reducible refine balloc ?_ ?_; (focus (first | omega | (simp; done) | (simp; omega)))))
    · repeat (first | with_reducible exact Below.refl _ _ | with_reducible refine bdrew ?_ | (with_reducible refine balloc ?_ ?_; (focus (first | omega | (simp; done) | (simp; omega)))))
  · rintro Z ⟨kE, hP, hZ, hB⟩
    obtain ⟨hxE, hfE⟩ := block_facts kE
    have KE := hide kE
    have HPZ := hide hP
    have HRZ := hide hZ
    have HBZ := hide hB
    have hx2 := hZ.onC
    rw [HON.out] at hx2
    have hk := unhide HK
    subst hk
    have hlZ := PlanAt.ref hP
    clear kE hP hZ hB c1 c2 c3 c4
    have hgq : g < X.heap.size + 1 := by omega
    have hqX : X.heap.size ≤ X.heap.size + 1 := by omega
    have HBZ1 := HBZ
    generalize X.heap.size + 1 = q at *
    go_wp2_with fail
    with_reducible refine (unhide HEV _ _ (unhide HRZ) hgq (unhide HPZ)).mono ?_
    rintro e w9 ⟨rfl, hp9, hb9⟩
    have HP9 := hide hp9
    have HB9 := hide ((unhide HBZ).trans (hb9.mono (by omega)))
    clear hp9 hb9
    go_wp2
    go_ret
    exact ⟨q, rfl, by omega, unhide HP9, unhide HB9⟩
set_option maxRecDepth 10000 in
set_option maxHeartbeats 2000000 in
theorem planned_five (hR : RefAt X g d) (kd n : Int) (tx : ByteArray) (cut torn : Int) (hk : kd = 5) (hon : d.on = true) (hI : M.Inv' d) (hkey : d.key.size ≤ 16) (ht : tx.size ≤ maxLen) :
    Calls Tryz.prog 89 #[.pointer (some ⟨g, 0, none⟩), .agg #[.int .i64 kd, .int .i64 n, .string tx, .int .i64 cut, .int .i64 torn]] X fun y w' => PlansTo X (M.offers d tx) y w' := by
  have HEV : Hid (∀ (Y : World) (q : Nat), RefAt Y g d → g < q → PlanIs Y q (M.idle d) → Calls Tryz.prog 124 #[.pointer (some ⟨g, 0, none⟩), .pointer (some ⟨q, 0, none⟩), .string tx] Y fun e w' => Comes Y q (M.offers d tx) e w') := fun Y q hY hq hP => refOffers_any hI hkey tx ht hY hq hP
  have HK := hide hk
  have HON := hide hon
  clear hk hon
  have HRF := hide hR
  have hgl := hR.lt
  have c1 := hR.onC
  have c2 := hR.waitC
  have c3 := hR.nextC
  have c4 := hR.ageC
  have l1 : g < X.heap.size := (by omega); have n1 : ¬ g = X.heap.size := (by omega)
  clear hR
  go_enter Tryz.func89, Tryz.ntmps89
  go_wp2_with fail
  go_region
  refine gen_worldR (Q := Exit.then _ _ Exit.normal _) (fun Z => Z.heap[X.heap.size]? = some (.cells #[.int .i64 kd, .int .i64 n, .string tx, .int .i64 cut, .int .i64 torn] 86 (0, 0)) ∧ PlanIs Z (X.heap.size + 1) (M.idle d) ∧ RefAt Z g d ∧ Below X.heap.size X Z) ?_ ?_
  · refine ⟨?_, ⟨none, 0, none, 0, ?_, World.ownsRow_nil _ _ _ _, World.ownsRow_nil _ _ _ _⟩, ?_, ?_⟩
    · repeat (first | with_reducible exact first_block _ _ _ | with_reducible refine drew_block ?_)
    · repeat (first | with_reducible exact last_block _ _ (by simp) | exact last_block _ _ (by simp) | with_reducible refine drew_block ?_)
    · refine (unhide HRF).kept ?_
      repeat (first | with_reducible exact Below.refl _ _ | with_reducible refine bdrew ?_ | (with_reducible refine balloc ?_ ?_; (focus (first | omega | (simp; done) | (simp; omega)))))
    · repeat (first | with_reducible exact Below.refl _ _ | with_reducible refine bdrew ?_ | (with_reducible refine balloc ?_ ?_; (focus (first | omega | (simp; done) | (simp; omega)))))
  · rintro Z ⟨kE, hP, hZ, hB⟩
    obtain ⟨hxE, hfE⟩ := block_facts kE
    have KE := hide kE
    have HPZ := hide hP
    have HRZ := hide hZ
    have HBZ := hide hB
    have hx2 := hZ.onC
    rw [HON.out] at hx2
    have hk := unhide HK
    subst hk
    have hlZ := PlanAt.ref hP
    clear kE hP hZ hB c1 c2 c3 c4
    have hgq : g < X.heap.size + 1 := by omega
    have hqX : X.heap.size ≤ X.heap.size + 1 := by omega
    have HBZ1 := HBZ
    generalize X.heap.size + 1 = q at *
    go_wp2_with fail
    with_reducible refine (unhide HEV _ _ (unhide HRZ) hgq (unhide HPZ)).mono ?_
    rintro e w9 ⟨rfl, hp9, hb9⟩
    have HP9 := hide hp9
    have HB9 := hide ((unhide HBZ).trans (hb9.mono (by omega)))
    clear hp9 hb9
    go_wp2
    go_ret
    exact ⟨q, rfl, by omega, unhide HP9, unhide HB9⟩
set_option maxRecDepth 10000 in
set_option maxHeartbeats 2000000 in
theorem planned_six (hR : RefAt X g d) (kd n : Int) (tx : ByteArray) (cut torn : Int) (hk : kd = 6) (hon : d.on = true) (hI : M.Inv' d) :
    Calls Tryz.prog 89 #[.pointer (some ⟨g, 0, none⟩), .agg #[.int .i64 kd, .int .i64 n, .string tx, .int .i64 cut, .int .i64 torn]] X fun y w' => PlansTo X (M.takes d n tx) y w' := by
  have HEV : Hid (∀ (Y : World) (q : Nat), RefAt Y g d → g < q → PlanIs Y q (M.idle d) → Calls Tryz.prog 125 #[.pointer (some ⟨g, 0, none⟩), .pointer (some ⟨q, 0, none⟩), .int .i64 n, .string tx] Y fun e w' => Comes Y q (M.takes d n tx) e w') := fun Y q hY hq hP => refTakes_any hI n tx hY hq hP
  have HK := hide hk
  have HON := hide hon
  clear hk hon
  have HRF := hide hR
  have hgl := hR.lt
  have c1 := hR.onC
  have c2 := hR.waitC
  have c3 := hR.nextC
  have c4 := hR.ageC
  have l1 : g < X.heap.size := (by omega); have n1 : ¬ g = X.heap.size := (by omega)
  clear hR
  go_enter Tryz.func89, Tryz.ntmps89
  go_wp2_with fail
  go_region
  refine gen_worldR (Q := Exit.then _ _ Exit.normal _) (fun Z => Z.heap[X.heap.size]? = some (.cells #[.int .i64 kd, .int .i64 n, .string tx, .int .i64 cut, .int .i64 torn] 86 (0, 0)) ∧ PlanIs Z (X.heap.size + 1) (M.idle d) ∧ RefAt Z g d ∧ Below X.heap.size X Z) ?_ ?_
  · refine ⟨?_, ⟨none, 0, none, 0, ?_, World.ownsRow_nil _ _ _ _, World.ownsRow_nil _ _ _ _⟩, ?_, ?_⟩
    · repeat (first | with_reducible exact first_block _ _ _ | with_reducible refine drew_block ?_)
    · repeat (first | with_reducible exact last_block _ _ (by simp) | exact last_block _ _ (by simp) | with_reducible refine drew_block ?_)
    · refine (unhide HRF).kept ?_
      repeat (first | with_reducible exact Below.refl _ _ | with_reducible refine bdrew ?_ | (with_reducible refine balloc ?_ ?_; (focus (first | omega | (simp; done) | (simp; omega)))))
    · repeat (first | with_reducible exact Below.refl _ _ | with_reducible refine bdrew ?_ | (with_reducible refine balloc ?_ ?_; (focus (first | omega | (simp; done) | (simp; omega)))))
  · rintro Z ⟨kE, hP, hZ, hB⟩
    obtain ⟨hxE, hfE⟩ := block_facts kE
    have KE := hide kE
    have HPZ := hide hP
    have HRZ := hide hZ
    have HBZ := hide hB
    have hx2 := hZ.onC
    rw [HON.out] at hx2
    have hk := unhide HK
    subst hk
    have hlZ := PlanAt.ref hP
    clear kE hP hZ hB c1 c2 c3 c4
    have hgq : g < X.heap.size + 1 := by omega
    have hqX : X.heap.size ≤ X.heap.size + 1 := by omega
    have HBZ1 := HBZ
    generalize X.heap.size + 1 = q at *
    go_wp2_with fail
    with_reducible refine (unhide HEV _ _ (unhide HRZ) hgq (unhide HPZ)).mono ?_
    rintro e w9 ⟨rfl, hp9, hb9⟩
    have HP9 := hide hp9
    have HB9 := hide ((unhide HBZ).trans (hb9.mono (by omega)))
    clear hp9 hb9
    go_wp2
    go_ret
    exact ⟨q, rfl, by omega, unhide HP9, unhide HB9⟩
set_option maxRecDepth 10000 in
set_option maxHeartbeats 2000000 in
theorem planned_seven (hR : RefAt X g d) (kd n : Int) (tx : ByteArray) (cut torn : Int) (hk : kd = 7) (hon : d.on = true) (hI : M.Inv' d) :
    Calls Tryz.prog 89 #[.pointer (some ⟨g, 0, none⟩), .agg #[.int .i64 kd, .int .i64 n, .string tx, .int .i64 cut, .int .i64 torn]] X fun y w' => PlansTo X (M.confirms d) y w' := by
  have HEV : Hid (∀ (Y : World) (q : Nat), RefAt Y g d → g < q → PlanIs Y q (M.idle d) → Calls Tryz.prog 126 #[.pointer (some ⟨g, 0, none⟩), .pointer (some ⟨q, 0, none⟩)] Y fun e w' => Comes Y q (M.confirms d) e w') := fun Y q hY hq hP => (fun _ => refConfirms_any hI hY hP) hq
  have HK := hide hk
  have HON := hide hon
  clear hk hon
  have HRF := hide hR
  have hgl := hR.lt
  have c1 := hR.onC
  have c2 := hR.waitC
  have c3 := hR.nextC
  have c4 := hR.ageC
  have l1 : g < X.heap.size := (by omega); have n1 : ¬ g = X.heap.size := (by omega)
  clear hR
  go_enter Tryz.func89, Tryz.ntmps89
  go_wp2_with fail
  go_region
  refine gen_worldR (Q := Exit.then _ _ Exit.normal _) (fun Z => Z.heap[X.heap.size]? = some (.cells #[.int .i64 kd, .int .i64 n, .string tx, .int .i64 cut, .int .i64 torn] 86 (0, 0)) ∧ PlanIs Z (X.heap.size + 1) (M.idle d) ∧ RefAt Z g d ∧ Below X.heap.size X Z) ?_ ?_
  · refine ⟨?_, ⟨none, 0, none, 0, ?_, World.ownsRow_nil _ _ _ _, World.ownsRow_nil _ _ _ _⟩, ?_, ?_⟩
    · repeat (first | with_reducible exact first_block _ _ _ | with_reducible refine drew_block ?_)
    · repeat (first | with_reducible exact last_block _ _ (by simp) | exact last_block _ _ (by simp) | with_reducible refine drew_block ?_)
    · refine (unhide HRF).kept ?_
      repeat (first | with_reducible exact Below.refl _ _ | with_reducible refine bdrew ?_ | (with_reducible refine balloc ?_ ?_; (focus (first | omega | (simp; done) | (simp; omega)))))
    · repeat (first | with_reducible exact Below.refl _ _ | with_reducible refine bdrew ?_ | (with_reducible refine balloc ?_ ?_; (focus (first | omega | (simp; done) | (simp; omega)))))
  · rintro Z ⟨kE, hP, hZ, hB⟩
    obtain ⟨hxE, hfE⟩ := block_facts kE
    have KE := hide kE
    have HPZ := hide hP
    have HRZ := hide hZ
    have HBZ := hide hB
    have hx2 := hZ.onC
    rw [HON.out] at hx2
    have hk := unhide HK
    subst hk
    have hlZ := PlanAt.ref hP
    clear kE hP hZ hB c1 c2 c3 c4
    have hgq : g < X.heap.size + 1 := by omega
    have hqX : X.heap.size ≤ X.heap.size + 1 := by omega
    have HBZ1 := HBZ
    generalize X.heap.size + 1 = q at *
    go_wp2_with fail
    with_reducible refine (unhide HEV _ _ (unhide HRZ) hgq (unhide HPZ)).mono ?_
    rintro e w9 ⟨rfl, hp9, hb9⟩
    have HP9 := hide hp9
    have HB9 := hide ((unhide HBZ).trans (hb9.mono (by omega)))
    clear hp9 hb9
    go_wp2
    go_ret
    exact ⟨q, rfl, by omega, unhide HP9, unhide HB9⟩
end
end Go.Proofs.YtjfmiomopfjecabGreat

/- Texts laid together: RefPlanned2, RefInto, RefBytes, DevDo, DevPlay, DevDone, RefDo, RefDo2, RefDone, DevWrap, RefStat, RefStat2, RefNewMath, RefNew, LawList, LawLeaf, LawDone, LawMade, LawBegin, LawScript. -/
import Derived.Test.YtjfmiomopfjecabGreatAg
import Derived.Test.YtjfmiomopfjecabGreatAe
import Derived.Test.YtjfmiomopfjecabGreatAd
import Derived.Deep.RegionHeld
import Derived.Test.YtjfmiomopfjecabGreatAb
import Derived.BigQuiet
import Derived.Test.YtjfmiomopfjecabGreatAa
import Derived.Test.YtjfmiomopfjecabGreatAc
import Derived.Test.YtjfmiomopfjecabGreatAf
/- The document's device: what an event would come to: all of them. -/
namespace Go.Proofs.YtjfmiomopfjecabGreat
open Go.RowKit Go.Lib

section
variable {X : World} {g : Nat} {d : M.Dev}
set_option maxRecDepth 10000 in
set_option maxHeartbeats 2000000 in
theorem planned_four (hR : RefAt X g d) (kd n : Int) (tx : ByteArray) (cut torn : Int) (hk : kd = 4) (hon : d.on = true) (hI : M.Inv' d) (ht : tx.size ≤ maxLen) :
    Calls Tryz.prog 89 #[.pointer (some ⟨g, 0, none⟩), .agg #[.int .i64 kd, .int .i64 n, .string tx, .int .i64 cut, .int .i64 torn]] X fun y w' => PlansTo X (M.infers d tx) y w' := by
  have hF := hI.2.1.bytes
  have hk1 := hI.2.1.kept
  have hsv : M.servedD d.F ≤ 1 := by unfold M.servedD; split <;> omega
  have hlen : M.fld d.F (4 + M.servedD d.F) ≤ 96 := by
    have hc : M.servedD d.F = 0 ∨ M.servedD d.F = 1 := by omega
    rcases hc with e | e <;> rw [e]
    · exact hI.2.1.len0
    · exact hI.2.1.len1
  have hzi : (M.imgOf d.F (M.servedD d.F)).size ≤ 96 := by unfold M.imgOf; rw [M.mk_size]; exact hlen
  have HSV := hide (fun (Y : World) (hY : RefAt Y g d) => refServed_any hY hF hk1)
  have HIM := hide (fun (Y : World) (hY : RefAt Y g d) => refImg_any hY hF (M.servedD d.F) hsv hlen)
  have HEV := hide (fun Y : World => refEval_any (M.imgOf d.F (M.servedD d.F)) tx Y (by unfold maxLen; omega) ht)
  have HEN := hide (evalNum_nat (M.imgOf d.F (M.servedD d.F)) tx)
  have HPL : Hid (M.infers d tx = ⟨[], (evalNum (M.imgOf d.F (M.servedD d.F)) tx).toNat, evalTxt (M.imgOf d.F (M.servedD d.F)) tx, -1, d.wait, d.next, d.age, d.on⟩) := rfl
  have HK := hide hk
  have HON := hide hon
  clear hk hon
  have HRF := hide hR
  have hgl := hR.lt
  have c1 := hR.onC
  have c2 := hR.waitC
  have c3 := hR.nextC
  have c4 := hR.ageC
  have l1 : g < X.heap.size := (by omega); have n1 : ¬ g = X.heap.size := (by omega)
  clear hR
  go_enter Tryz.func89, Tryz.ntmps89
  go_wp2_with fail
  go_region
  refine gen_worldR (Q := Exit.then _ _ Exit.normal _) (fun Z => Z.heap[X.heap.size]? = some (.cells #[.int .i64 kd, .int .i64 n, .string tx, .int .i64 cut, .int .i64 torn] 86 (0, 0)) ∧ PlanIs Z (X.heap.size + 1) (M.idle d) ∧ RefAt Z g d ∧ Below X.heap.size X Z) ?_ ?_
  · refine ⟨?_, ⟨none, 0, none, 0, ?_, World.ownsRow_nil _ _ _ _, World.ownsRow_nil _ _ _ _⟩, ?_, ?_⟩
    · repeat (first | with_reducible exact first_block _ _ _ | with_reducible refine drew_block ?_)
    · repeat (first | with_reducible exact last_block _ _ (by simp) | exact last_block _ _ (by simp) | with_reducible refine drew_block ?_)
    · refine (unhide HRF).kept ?_
      repeat (first | with_reducible exact Below.refl _ _ | with_reducible refine bdrew ?_ | (with_reducible refine balloc ?_ ?_; (focus (first | omega | (simp; done) | (simp; omega)))))
    · repeat (first | with_reducible exact Below.refl _ _ | with_reducible refine bdrew ?_ | (with_reducible refine balloc ?_ ?_; (focus (first | omega | (simp; done) | (simp; omega)))))
  · rintro Z ⟨kE, hP, hZ, hB⟩
    obtain ⟨hxE, hfE⟩ := block_facts kE
    have KE := hide kE
    have HPZ := hide hP
    have HRZ := hide hZ
    have HBZ := hide hB
    have hx2 := hZ.onC
    rw [HON.out] at hx2
    have hk := unhide HK
    subst hk
    have hlZ := PlanAt.ref hP
    clear kE hP hZ hB c1 c2 c3 c4
    have hgq : g < X.heap.size + 1 := by omega
    have hqX : X.heap.size ≤ X.heap.size + 1 := by omega
    have HBZ1 := HBZ
    generalize X.heap.size + 1 = q at *
    have rule1 : ∀ (Y : World) (o : Nat), Y.heap[X.heap.size]? = some (.cells #[.int .i64 4, .int .i64 n, .string tx, .int .i64 cut, .int .i64 torn] 86 (0, 0)) → Y.cell? ⟨X.heap.size, o, none⟩ = (#[.int .i64 4, .int .i64 n, .string tx, .int .i64 cut, .int .i64 torn] : Array Value)[o]? := fun Y o hh => cell_in hh o
    generalize evalNum (M.imgOf d.F (M.servedD d.F)) tx = en at *
    generalize evalTxt (M.imgOf d.F (M.servedD d.F)) tx = et at *
    generalize (M.imgOf d.F (M.servedD d.F)) = IM at *
    generalize M.servedD d.F = sv at *
    go_wp2_with fail
    go_region_held3 (fun Y => Y.heap[X.heap.size]? = some (.cells #[.int .i64 4, .int .i64 n, .string tx, .int .i64 cut, .int .i64 torn] 86 (0, 0))) (repeat (first | with_reducible exact hC1 | with_reducible exact unhide KE | with_reducible refine drew_block ?_)) ((first
      | (go_at_call 92; with_reducible refine (unhide HSV _ ((unhide HRZ).kept (Below.refl _ _).drew)).mono ?_; rintro y wN ⟨rfl, rfl⟩)
      | (go_at_call 123; with_reducible refine (unhide HIM _ ((unhide HRZ).kept (Below.refl _ _).drew)).mono ?_; rintro y wN ⟨rfl, rfl⟩)
      | (go_at_call 122; with_reducible refine (unhide HEV _).mono ?_; rintro y w1 ⟨rfl, hb1⟩; have hC1 := kept_block hb1 (drew_block (unhide KE)))))
    all_goals
      have HP1 : Hid (PlanAt w1 q [] 0 0 ⟨#[]⟩ (-1) d.wait d.next d.age d.on) := PlanAt.kept (unhide HPZ) ((Below.refl _ _).drew.trans hb1)
      have HB1 : Hid (Below X.heap.size X w1) := (unhide HBZ).trans (((Below.refl _ _).drew.trans hb1).mono (by show X.heap.size ≤ Z.heap.size; omega))
      have HPf := hide (((((unhide HP1).setErr en).setVer 0).setText et).setAsk (-1))
      have HBf := hide (Below.trans (unhide HB1) ((low_set (o := 5) (v := .int .i64 (-1)) (low_set (o := 4) (v := .string et) (low_set (o := 3) (v := .int .i64 0) (low_set (o := 2) (v := .int .i64 en) (Below.refl q w1))))).mono (by omega)))
      obtain ⟨⟨ao, ca, to, ct, hxq⟩, hfq⟩ := (unhide HP1).facts
      have hq1 := (unhide HP1).ref
      clear hb1 hC1 HP1 HB1 rule1
      go_wp2
      go_ret
      refine ⟨q, rfl, by omega, ?_, unhide HBf⟩
      rw [HPL.out]
      unfold PlanIs
      dsimp only
      rw [HEN.out]
      exact unhide HPf
/-- an event's plan is what it should be -/
theorem refPlanned_any (hI : M.Inv' d) (hkey : d.key.size ≤ 16) (hR : RefAt X g d) (e : M.Ev) (ht : e.text.size ≤ maxLen) :
    Calls Tryz.prog 89 #[.pointer (some ⟨g, 0, none⟩), .agg #[.int .i64 e.kind, .int .i64 e.n, .string e.text, .int .i64 e.cut, .int .i64 e.torn]] X fun y w' => PlansTo X (M.planned d e) y w' := by
  obtain ⟨kd, n, tx, cut, torn⟩ := e
  dsimp only at ht ⊢
  by_cases hlo : kd < 1
  · have hp : M.planned d ⟨kd, n, tx, cut, torn⟩ = M.fails d 7 := by unfold M.planned; rw [if_pos (.inl hlo)]
    rw [hp]
    exact planned_low hR kd n tx cut torn hlo
  by_cases hhi : 7 < kd
  · have hp : M.planned d ⟨kd, n, tx, cut, torn⟩ = M.fails d 7 := by unfold M.planned; rw [if_pos (.inr hhi)]
    rw [hp]
    exact planned_high hR kd n tx cut torn hhi hlo
  cases hon : d.on with
  | true =>
    by_cases h2 : kd = 2
    · have hp : M.planned d ⟨kd, n, tx, cut, torn⟩ = M.fails d 9 := by unfold M.planned; rw [if_neg (by show ¬ (kd < 1 ∨ 7 < kd); omega), if_pos ⟨h2, hon⟩]
      rw [hp]
      exact planned_on hR kd n tx cut torn h2 hon
    have base : M.planned d ⟨kd, n, tx, cut, torn⟩ = if kd = 1 then { M.idle d with on := false } else if kd = 3 then M.ticks d else if kd = 4 then M.infers d tx else if kd = 5 then M.offers d tx else if kd = 6 then M.takes d n tx else M.confirms d := by
      unfold M.planned
      rw [if_neg (by show ¬ (kd < 1 ∨ 7 < kd); omega), if_neg (fun hh => h2 hh.1), if_neg (fun hh => by rw [hon] at hh; exact absurd hh.2 (by decide))]
      show (if kd = 1 then _ else if kd = 2 then _ else _) = _
      rw [if_neg (show ¬ kd = 2 from h2)]
    have hc : kd = 1 ∨ kd = 3 ∨ kd = 4 ∨ kd = 5 ∨ kd = 6 ∨ kd = 7 := by omega
    rcases hc with h | h | h | h | h | h
    · rw [base, if_pos h]
      exact planned_one hR kd n tx cut torn h hon
    · rw [base, if_neg (by omega), if_pos h]
      exact planned_three hR kd n tx cut torn h hon hI
    · rw [base, if_neg (by omega), if_neg (by omega), if_pos h]
      exact planned_four hR kd n tx cut torn h hon hI ht
    · rw [base, if_neg (by omega), if_neg (by omega), if_neg (by omega), if_pos h]
      exact planned_five hR kd n tx cut torn h hon hI hkey ht
    · rw [base, if_neg (by omega), if_neg (by omega), if_neg (by omega), if_neg (by omega), if_pos h]
      exact planned_six hR kd n tx cut torn h hon hI
    · rw [base, if_neg (by omega), if_neg (by omega), if_neg (by omega), if_neg (by omega), if_neg (by omega)]
      exact planned_seven hR kd n tx cut torn h hon hI
  | false =>
    by_cases h2 : kd = 2
    · have hp : M.planned d ⟨kd, n, tx, cut, torn⟩ = M.boots d := by
        unfold M.planned
        rw [if_neg (by show ¬ (kd < 1 ∨ 7 < kd); omega), if_neg (fun hh => by rw [hon] at hh; exact absurd hh.2 (by decide)), if_neg (fun hh => hh.1 h2)]
        show (if kd = 1 then _ else if kd = 2 then _ else _) = _
        rw [if_neg (by omega), if_pos h2]
      rw [hp]
      exact planned_two hR kd n tx cut torn h2 hon hI
    · have hp : M.planned d ⟨kd, n, tx, cut, torn⟩ = M.fails d 8 := by
        unfold M.planned
        rw [if_neg (by show ¬ (kd < 1 ∨ 7 < kd); omega), if_neg (fun hh => h2 hh.1), if_pos ⟨h2, hon⟩]
      rw [hp]
      exact planned_off hR kd n tx cut torn hlo hhi h2 hon
end
end Go.Proofs.YtjfmiomopfjecabGreat

/- The document's device: a page is written, or a part of it. -/
namespace Go.Proofs.YtjfmiomopfjecabGreat
open Go.RowKit Go.Lib

theorem into_text {F : Nat → Nat} (hF : ∀ j, F j < 256) {p t : Nat} {s : ByteArray} (hp : p < 23) (ht : t ≤ 16) (hs : s.size = 16) :
    (M.mk 368 F).extract 0 (p * 16) ++ s.extract 0 t ++ (M.mk 368 F).extract (p * 16 + t) 368 = M.mk 368 (M.put F p (M.bz s) t) := by
  have hz := M.mk_size 368 F
  have e1 : (M.mk 368 F).extract 0 (p * 16) = M.mk (p * 16) (M.bz (M.mk 368 F)) := extract_zero _ _ (by omega)
  have e2 : s.extract 0 t = M.mk t (M.bz s) := extract_zero _ _ (by omega)
  have e3 : (M.mk 368 F).extract (p * 16 + t) 368 = M.mk (368 - (p * 16 + t)) fun j => M.bz (M.mk 368 F) (p * 16 + t + j) := by
    have := M.extract_mk (M.mk 368 F) (p * 16 + t) (368 - (p * 16 + t)) (by omega)
    rw [show p * 16 + t + (368 - (p * 16 + t)) = 368 from by omega] at this
    exact this
  rw [e1, e2, e3]
  have hB : ∀ j, j < 368 → M.put F p (M.bz s) t j < 256 := fun j _ => M.put_bytes hF (fun i _ => M.bz_lt _ _) j
  refine M.bz_ext (by simp [M.mk_size]; omega) fun j hj => ?_
  have hj' : j < 368 := by simp [M.mk_size] at hj; omega
  rw [M.bz_mk hB hj', M.bz_append, M.bz_append]
  simp only [ByteArray.size_append, M.mk_size]
  unfold M.put
  by_cases h1 : j < p * 16
  · rw [if_pos (by omega), if_pos h1, if_neg (by omega), M.bz_mk (fun j _ => M.bz_lt _ _) h1, M.bz_mk (fun j _ => hF j) hj']
  · by_cases h2 : j < p * 16 + t
    · rw [if_pos h2, if_neg h1, if_pos ⟨by omega, by omega⟩, M.bz_mk (fun j _ => M.bz_lt _ _) (by omega)]
      congr 1
      omega
    · rw [if_neg h2, if_neg (by omega), M.bz_mk (fun j _ => M.bz_lt _ _) (by omega), M.bz_mk (fun j _ => hF j) (by omega)]
      congr 1
      omega
section
variable {X : World} {g : Nat} {d : M.Dev}
theorem RefAt.setF (h : RefAt X g d) (F' : Nat → Nat) : RefAt (X.setCell ⟨g, 1, none⟩ (.string (M.mk 368 F'))) g { d with F := F' } := (setCell_in h 1 _).trans rfl
set_option maxRecDepth 10000 in
set_option maxHeartbeats 1000000 in
theorem refInto_at (hR : RefAt X g d) (hF : ∀ j, d.F j < 256) (p t : Nat) (c n : Int) (s : ByteArray) (hp : p < 23) (hs : s.size = 16) (hc : c = p) (ht : (n < 0 ∧ t = 0) ∨ (16 < n ∧ t = 16) ∨ (n = t ∧ t ≤ 16)) :
    Calls Tryz.prog 90 #[.pointer (some ⟨g, 0, none⟩), .int .i64 c, .string s, .int .i64 n] X fun e w' => e = .returned (.tuple #[]) ∧ RefAt w' g { d with F := M.put d.F p (M.bz s) t } ∧ Only (· = g) X w' := by
  subst hc
  have ht16 : t ≤ 16 := by omega
  have HT := hide (into_text hF hp ht16 hs)
  have HRf := hide (hR.setF (M.put d.F p (M.bz s) t))
  have HOf := hide (only_set X g 1 (.string (M.mk 368 (M.put d.F p (M.bz s) t))))
  have hx := hR.flashC
  have hfr := hR.free
  have hgl := hR.lt
  have hz := M.mk_size 368 d.F
  generalize M.mk 368 (M.put d.F p (M.bz s) t) = NF at *
  generalize M.mk 368 d.F = FL at *
  clear hR hF
  have i1 : (0 : Int) ≤ (p : Int) * 16 := by omega
  have i2 : (p : Int) * 16 ≤ (FL.size : Int) := by omega
  have i3 : (p : Int) * 16 + (t : Int) ≤ (FL.size : Int) := by omega
  have i4 : (0 : Int) ≤ (p : Int) * 16 + (t : Int) := by omega
  have i5 : (t : Int) ≤ (s.size : Int) := by omega
  have hw1 : IntKind.i64.wrap ((p : Int) * 16) = (p : Int) * 16 := IntWalk.i64_in _ ⟨by omega, by omega⟩
  have hw2 : IntKind.i64.wrap ((p : Int) * 16 + (t : Int)) = (p : Int) * 16 + (t : Int) := IntWalk.i64_in _ ⟨by omega, by omega⟩
  rcases ht with ⟨hn, rfl⟩ | ⟨hn, rfl⟩ | ⟨rfl, _⟩
  · go_enter Tryz.func90, Tryz.ntmps90
    go_wp2_with fail
    go_region
    have HQ : Hid (FL.extract 0 (max (p * 16) 368) = NF) := (by have := HT.out; first | exact this | simpa using this | (simp at this ⊢; exact this))
    rw [HQ.out]
    exact bodyPost_end (v := .tuple #[]) (by simp [results, Tryz.results90, go_sem]) rfl ⟨rfl, (unhide HRf).kept (Below.refl _ _).drew, (unhide HOf).drew⟩
  · have hn0 : ¬ n < 0 := by omega
    go_enter Tryz.func90, Tryz.ntmps90
    go_wp2_with fail
    go_region
    have HQ : Hid (FL.extract 0 (p * 16) ++ s.extract 0 16 ++ FL.extract (p * 16 + 16) 368 = NF) := (by have := HT.out; first | exact this | simpa using this | (simp at this ⊢; exact this))
    rw [HQ.out]
    exact bodyPost_end (v := .tuple #[]) (by simp [results, Tryz.results90, go_sem]) rfl ⟨rfl, (unhide HRf).kept (Below.refl _ _).drew, (unhide HOf).drew⟩
  · go_enter Tryz.func90, Tryz.ntmps90
    go_wp2_with fail
    go_region
    have HQ : Hid (FL.extract 0 (p * 16) ++ s.extract 0 t ++ FL.extract (p * 16 + t) 368 = NF) := (by have := HT.out; first | exact this | simpa using this | (simp at this ⊢; exact this))
    rw [HQ.out]
    exact bodyPost_end (v := .tuple #[]) (by simp [results, Tryz.results90, go_sem]) rfl ⟨rfl, (unhide HRf).kept (Below.refl _ _).drew, (unhide HOf).drew⟩
theorem refInto_any (hR : RefAt X g d) (hF : ∀ j, d.F j < 256) (p : Nat) (c n : Int) (s : ByteArray) (hp : p < 23) (hs : s.size = 16) (hc : c = p) :
    Calls Tryz.prog 90 #[.pointer (some ⟨g, 0, none⟩), .int .i64 c, .string s, .int .i64 n] X fun e w' => e = .returned (.tuple #[]) ∧ RefAt w' g { d with F := M.put d.F p (M.bz s) (M.tornN n) } ∧ Only (· = g) X w' :=
  refInto_at hR hF p (M.tornN n) c n s hp hs hc (by unfold M.tornN; omega)
end
end Go.Proofs.YtjfmiomopfjecabGreat

/- What an event writes: bytes, into pages that there are. In plain words. -/
namespace Go.Proofs.YtjfmiomopfjecabGreat
open Go.RowKit Go.Lib

/-- a page that there is, and bytes -/
def PageOk (x : M.Wr) : Prop := x.1 < 23 ∧ M.Bts x
section
variable {d : M.Dev}
theorem note_ok {F : Nat → Nat} (_hF : ∀ j, F j < 256) (k kept phase tries l0 l1 a b c d th : Nat) (h1 : kept < 256) (h2 : phase < 256) (h3 : tries < 256) (h4 : l0 < 256) (h5 : l1 < 256) (h6 : a < 256) (h7 : b < 256) (h8 : c < 256) (h9 : d < 256) (h10 : th < 256) : PageOk (M.noteW F k kept phase tries l0 l1 a b c d th) := by
  have hw := recAt_le F
  refine ⟨?_, ?_⟩
  · unfold M.noteW
    dsimp only
    split <;> omega
  · unfold M.noteW
    exact M.recB_bytes (by omega) h1 h2 h3 h4 h5 h6 h7 h8 h9 h10 _
theorem same_ok {F : Nat → Nat} (hF : ∀ j, F j < 256) (k phase tries : Nat) (h2 : phase < 256) (h3 : tries < 256) : PageOk (M.sameW F k phase tries) :=
  note_ok hF k _ phase tries _ _ _ _ _ _ 0 (hF _) h2 h3 (hF _) (hF _) (hF _) (hF _) (hF _) (hF _) (by omega)
theorem text_ok (p : Nat) (s : ByteArray) (f : Nat) (hp : p < 23) : PageOk (M.textW p s f) := ⟨hp, M.textW_bytes p s f⟩
theorem all_nil : ∀ x ∈ ([] : List M.Wr), PageOk x := fun x hx => by cases hx
theorem all_one {y : M.Wr} (h : PageOk y) : ∀ x ∈ [y], PageOk x := fun x hx => by simp only [List.mem_cons, List.not_mem_nil, or_false] at hx; subst hx; exact h
theorem all_app {l r : List M.Wr} (h : ∀ x ∈ l, PageOk x) (k : ∀ x ∈ r, PageOk x) : ∀ x ∈ l ++ r, PageOk x := fun x hx => by
  rcases List.mem_append.1 hx with e | e
  · exact h x e
  · exact k x e
theorem installs_ok (hI : M.Inv' d) : ∀ x ∈ (M.installs d).ws, PageOk x := by
  have hF := hI.2.1.bytes
  have hk := hI.2.1.kept
  unfold M.installs
  by_cases hb : (M.builtN d.F).1 ≠ 0
  · rw [if_pos hb]
    exact all_one (same_ok hF 0 0 _ (by omega) (hF _))
  · rw [if_neg hb]
    have hsz := M.image_size (M.built_ok (F := d.F) (by omega)).1
    refine all_app (fun x hx => ?_) (all_one ?_)
    · unfold M.slotW at hx
      obtain ⟨i, hi, rfl⟩ := List.mem_map.1 hx
      have hi' := List.mem_range.1 hi
      unfold M.chunksN at hi'
      exact text_ok _ _ _ (by omega)
    · split
      · exact note_ok hF 0 1 2 3 _ _ _ _ _ _ 0 (by omega) (by omega) (by omega) (by omega) (hF _) (hF _) (hF _) (hF _) (hF _) (by omega)
      · exact note_ok hF 0 0 2 3 _ _ _ _ _ _ 0 (by omega) (by omega) (by omega) (hF _) (by omega) (hF _) (hF _) (hF _) (hF _) (by omega)
theorem planned_ok (hI : M.Inv' d) (e : M.Ev) : ∀ x ∈ (M.planned d e).ws, PageOk x := by
  have hF := hI.2.1.bytes
  have hk := hI.2.1.kept
  unfold M.planned
  split
  · exact all_nil
  split
  · exact all_nil
  split
  · exact all_nil
  split
  · exact all_nil
  split
  · show ∀ x ∈ (if M.fld d.F 2 = 2 then (if M.fld d.F 3 = 0 then [M.sameW d.F 0 0 0] else [M.sameW d.F 0 2 (M.fld d.F 3 - 1)]) else []), PageOk x
    split
    · split
      · exact all_one (same_ok hF 0 0 0 (by omega) (by omega))
      · exact all_one (same_ok hF 0 2 _ (by omega) (by have := hF (16 * M.recAt d.F + 3); show M.fld d.F 3 - 1 < 256; unfold M.fld; omega))
    · exact all_nil
  split
  · unfold M.ticks
    split
    · show ∀ x ∈ (if 5 ≤ d.age + 1 then [M.sameW d.F 0 0 0] else []), PageOk x
      split
      · exact all_one (same_ok hF 0 0 0 (by omega) (by omega))
      · exact all_nil
    split
    · split
      · exact installs_ok hI
      · split
        · exact all_nil
        · exact all_nil
    · exact all_nil
  split
  · exact all_nil
  split
  · unfold M.offers
    split
    · exact all_nil
    split
    · exact all_nil
    split
    · exact all_nil
    · refine all_app (all_app ?_ ?_) (all_one (same_ok hF _ 1 _ (by omega) (hF _)))
      · split
        · exact all_one (same_ok hF 0 0 _ (by omega) (hF _))
        · exact all_nil
      · exact all_app (l := [_]) (all_one (text_ok 2 _ 0 (by omega))) (all_app (l := [_]) (all_one (text_ok 3 _ 16 (by omega))) (all_one (text_ok 4 _ 32 (by omega))))
  split
  · unfold M.takes
    by_cases c1 : M.fld d.F 2 ≠ 1
    · rw [if_pos c1]; exact all_nil
    rw [if_neg c1]
    split
    · exact all_nil
    split
    · exact all_nil
    · rename_i h1 h2
      obtain ⟨a, ha⟩ := hI.2.1.man (by omega)
      have hle := M.sealOf_le ha
      have hc6 : M.chunksN (M.mf d.F 4) ≤ 6 := by unfold M.chunksN; omega
      have hn6 : e.n.toNat < 6 := by omega
      have hr := bit_room (hF _) hn6 h2
      exact all_app (l := [_]) (all_one (text_ok _ _ 0 (by omega))) (all_one (note_ok hF 0 _ 1 _ _ _ _ _ _ _ _ (hF _) (by omega) (hF _) (hF _) (hF _) (hF _) (hF _) (hF _) (hF _) hr))
  · unfold M.confirms
    split
    · exact all_nil
    · exact all_one (note_ok hF 0 _ 0 0 _ _ _ _ _ _ 0 (by omega) (by omega) (by omega) (hF _) (hF _) (hF _) (hF _) (hF _) (hF _) (by omega))
/-- the pages as texts, written, are the pages -/
theorem wrG_res {l : List M.Wr} (h : ∀ x ∈ l, PageOk x) : (gwsOf (l.map wrG)).map resW = l.map resW := by
  unfold gwsOf
  rw [List.map_map, List.map_map]
  refine List.map_congr_left fun x hx => ?_
  show resW (gwOf (wrG x)) = resW x
  unfold resW gwOf wrG
  refine congrArg (Prod.mk x.1) ?_
  funext i
  show M.bz (M.mk 16 x.2) i = x.2 i
  exact M.bz_mk (fun j hj => (h x hx).2 j hj) i.2
end
end Go.Proofs.YtjfmiomopfjecabGreat

/- An event is played. -/
namespace Go.Proofs.YtjfmiomopfjecabGreat
open Go.RowKit Go.Lib

abbrev evV (k n : Int) (tx : ByteArray) (cut torn : Int) : Value := .agg #[.int .i64 k, .int .i64 n, .string tx, .int .i64 cut, .int .i64 torn]
abbrev repV (err ver : Int) (tx : ByteArray) (ask : Int) : Value := .agg #[.int .i64 err, .int .i64 ver, .string tx, .int .i64 ask]
section
variable {pg num kp ph tr s0 v0 s1 v1 th : Nat} {w : World} {b : Nat} {t : TypeId} {key : ByteArray} {F : Nat → Nat} {on : Bool} {wait next age : Nat}
set_option maxRecDepth 10000 in
set_option maxHeartbeats 1000000 in
theorem outcome_2 (hd : DevAt w b t key F on wait next age) (n : Int) (tx : ByteArray) (cut torn : Int)
    (hrec : ∀ (W : World) (_ : DevAt W b t key F on wait next age), Calls Tryz.prog 80 #[.pointer (some ⟨b, 0, none⟩)] W fun e w' => e = .returned (recV pg num kp ph tr s0 v0 s1 v1 th) ∧ Below W.heap.size W w')
    (on' : Bool) (wait' next' age' : Nat) (err : Int) (text : ByteArray) (ask : Int) (l : List GW)
    (hx : ∀ (W : World) (_ : DevAt W b t key F on wait next age), Calls Tryz.prog 132 #[recV pg num kp ph tr s0 v0 s1 v1 th] W fun e w' => OutRaw W on' wait' next' age' err text ask l e w') :
    Calls Tryz.prog 109 #[.pointer (some ⟨b, 0, none⟩), evV 2 n tx cut torn] w fun e w' => OutRaw w on' wait' next' age' err text ask l e w' := by
  have HD := hide hd
  have HR := hide hrec
  have HX := hide hx
  clear hd hrec hx
  go_enter Tryz.func109, Tryz.ntmps109
  go_wp2_with fail
  refine (unhide HR _ (((unhide HD).alloc _).alloc _)).mono ?_
  rintro e w1 ⟨rfl, hb1⟩
  obtain ⟨k1, k2, hs1, hb⟩ := blk2 hb1
  have HD1 := hide ((((unhide HD).alloc _).alloc _).kept hb1)
  obtain ⟨hx1, hf1⟩ := block_facts k1
  have K2 := hide k2
  have HB1 := hide hb
  clear hb hb1 k1 k2
  have l1 : w.heap.size < w1.heap.size := (by omega); have n1 : ¬ w.heap.size = w1.heap.size := (by omega)
  go_wp2_with fail
  refine (unhide HX _ ((unhide HD1).alloc _)).mono ?_
  rintro e w2 ⟨ao, cap, rfl, hown, hb2⟩
  obtain ⟨hx2, hf2⟩ := block_facts (kept_block hb2 (alloc_block (unhide K2) _))
  have HO := hide hown
  have HB2 := hide hb2
  have hs2 := hb2.size
  simp at hs2
  clear hown hb2 hx1 hf1
  generalize hn : l.length = m at *
  have HN := hide hn
  clear hn
  have l2 : w.heap.size + 1 < w2.heap.size := (by omega); have n2 : ¬ w.heap.size + 1 = w2.heap.size := (by omega)
  go_wp2
  refine bodyPost_ret (v := outV (.slice ao m cap) on' wait' next' age' err text ask) (by simp [results, Tryz.results109, go_sem, hx2]) rfl ⟨ao, cap, by rw [HN.out], ?_, ?_⟩
  · rw [HN.out]
    refine ownsRow_base (base' := w1.heap.size + 1) ?_ (by omega)
    repeat (with_reducible refine oset ?_ ?_; (focus omega))
    have := unhide HO
    simpa using this
  · repeat (first | with_reducible exact unhide HB | with_reducible exact Below.refl _ _ | with_reducible refine bdrew ?_ | (with_reducible refine brow ?_ ?_; (focus (first | omega | (simp; done) | (simp; omega)))) | (with_reducible refine bset ?_ ?_; (focus (first | omega | (simp; done) | (simp; omega)))) | (with_reducible refine balloc ?_ ?_; (focus (first | omega | (simp; done) | (simp; omega)))) | (with_reducible refine bvia (unhide HB1) ?_ ?_; (focus (first | omega | (simp; done) | (simp; omega)))) | (with_reducible refine bvia (unhide HB2) ?_ ?_; (focus (first | omega | (simp; done) | (simp; omega)))) | (with_reducible refine bvia (unhide HB3) ?_ ?_; (focus (first | omega | (simp; done) | (simp; omega)))) | (with_reducible refine bvia (unhide HB4) ?_ ?_; (focus (first | omega | (simp; done) | (simp; omega)))) | (with_reducible refine bvia (unhide HB5) ?_ ?_; (focus (first | omega | (simp; done) | (simp; omega)))) | (with_reducible refine bvia (unhide HB6) ?_ ?_; (focus (first | omega | (simp; done) | (simp; omega)))))
set_option maxRecDepth 10000 in
set_option maxHeartbeats 1000000 in
theorem outcome_3 (hd : DevAt w b t key F on wait next age) (n : Int) (tx : ByteArray) (cut torn : Int)
    (hrec : ∀ (W : World) (_ : DevAt W b t key F on wait next age), Calls Tryz.prog 80 #[.pointer (some ⟨b, 0, none⟩)] W fun e w' => e = .returned (recV pg num kp ph tr s0 v0 s1 v1 th) ∧ Below W.heap.size W w')
    (on' : Bool) (wait' next' age' : Nat) (err : Int) (text : ByteArray) (ask : Int) (l : List GW)
    (hx : ∀ (W : World) (_ : DevAt W b t key F on wait next age), Calls Tryz.prog 133 #[.pointer (some ⟨b, 0, none⟩), recV pg num kp ph tr s0 v0 s1 v1 th] W fun e w' => OutRaw W on' wait' next' age' err text ask l e w') :
    Calls Tryz.prog 109 #[.pointer (some ⟨b, 0, none⟩), evV 3 n tx cut torn] w fun e w' => OutRaw w on' wait' next' age' err text ask l e w' := by
  have HD := hide hd
  have HR := hide hrec
  have HX := hide hx
  clear hd hrec hx
  go_enter Tryz.func109, Tryz.ntmps109
  go_wp2_with fail
  refine (unhide HR _ (((unhide HD).alloc _).alloc _)).mono ?_
  rintro e w1 ⟨rfl, hb1⟩
  obtain ⟨k1, k2, hs1, hb⟩ := blk2 hb1
  have HD1 := hide ((((unhide HD).alloc _).alloc _).kept hb1)
  obtain ⟨hx1, hf1⟩ := block_facts k1
  have K2 := hide k2
  have HB1 := hide hb
  clear hb hb1 k1 k2
  have l1 : w.heap.size < w1.heap.size := (by omega); have n1 : ¬ w.heap.size = w1.heap.size := (by omega)
  go_wp2_with fail
  refine (unhide HX _ ((unhide HD1).alloc _)).mono ?_
  rintro e w2 ⟨ao, cap, rfl, hown, hb2⟩
  obtain ⟨hx2, hf2⟩ := block_facts (kept_block hb2 (alloc_block (unhide K2) _))
  have HO := hide hown
  have HB2 := hide hb2
  have hs2 := hb2.size
  simp at hs2
  clear hown hb2 hx1 hf1
  generalize hn : l.length = m at *
  have HN := hide hn
  clear hn
  have l2 : w.heap.size + 1 < w2.heap.size := (by omega); have n2 : ¬ w.heap.size + 1 = w2.heap.size := (by omega)
  go_wp2
  refine bodyPost_ret (v := outV (.slice ao m cap) on' wait' next' age' err text ask) (by simp [results, Tryz.results109, go_sem, hx2]) rfl ⟨ao, cap, by rw [HN.out], ?_, ?_⟩
  · rw [HN.out]
    refine ownsRow_base (base' := w1.heap.size + 1) ?_ (by omega)
    repeat (with_reducible refine oset ?_ ?_; (focus omega))
    have := unhide HO
    simpa using this
  · repeat (first | with_reducible exact unhide HB | with_reducible exact Below.refl _ _ | with_reducible refine bdrew ?_ | (with_reducible refine brow ?_ ?_; (focus (first | omega | (simp; done) | (simp; omega)))) | (with_reducible refine bset ?_ ?_; (focus (first | omega | (simp; done) | (simp; omega)))) | (with_reducible refine balloc ?_ ?_; (focus (first | omega | (simp; done) | (simp; omega)))) | (with_reducible refine bvia (unhide HB1) ?_ ?_; (focus (first | omega | (simp; done) | (simp; omega)))) | (with_reducible refine bvia (unhide HB2) ?_ ?_; (focus (first | omega | (simp; done) | (simp; omega)))) | (with_reducible refine bvia (unhide HB3) ?_ ?_; (focus (first | omega | (simp; done) | (simp; omega)))) | (with_reducible refine bvia (unhide HB4) ?_ ?_; (focus (first | omega | (simp; done) | (simp; omega)))) | (with_reducible refine bvia (unhide HB5) ?_ ?_; (focus (first | omega | (simp; done) | (simp; omega)))) | (with_reducible refine bvia (unhide HB6) ?_ ?_; (focus (first | omega | (simp; done) | (simp; omega)))))
set_option maxRecDepth 10000 in
set_option maxHeartbeats 1000000 in
theorem outcome_4 (hd : DevAt w b t key F on wait next age) (n : Int) (tx : ByteArray) (cut torn : Int)
    (hrec : ∀ (W : World) (_ : DevAt W b t key F on wait next age), Calls Tryz.prog 80 #[.pointer (some ⟨b, 0, none⟩)] W fun e w' => e = .returned (recV pg num kp ph tr s0 v0 s1 v1 th) ∧ Below W.heap.size W w')
    (on' : Bool) (wait' next' age' : Nat) (err : Int) (text : ByteArray) (ask : Int) (l : List GW)
    (hx : ∀ (W : World) (_ : DevAt W b t key F on wait next age), Calls Tryz.prog 134 #[.pointer (some ⟨b, 0, none⟩), recV pg num kp ph tr s0 v0 s1 v1 th, .string tx] W fun e w' => OutRaw W on' wait' next' age' err text ask l e w') :
    Calls Tryz.prog 109 #[.pointer (some ⟨b, 0, none⟩), evV 4 n tx cut torn] w fun e w' => OutRaw w on' wait' next' age' err text ask l e w' := by
  have HD := hide hd
  have HR := hide hrec
  have HX := hide hx
  clear hd hrec hx
  go_enter Tryz.func109, Tryz.ntmps109
  go_wp2_with fail
  refine (unhide HR _ (((unhide HD).alloc _).alloc _)).mono ?_
  rintro e w1 ⟨rfl, hb1⟩
  obtain ⟨k1, k2, hs1, hb⟩ := blk2 hb1
  have HD1 := hide ((((unhide HD).alloc _).alloc _).kept hb1)
  obtain ⟨hx1, hf1⟩ := block_facts k1
  have K2 := hide k2
  have HB1 := hide hb
  clear hb hb1 k1 k2
  have l1 : w.heap.size < w1.heap.size := (by omega); have n1 : ¬ w.heap.size = w1.heap.size := (by omega)
  go_wp2_with fail
  refine (unhide HX _ ((unhide HD1).alloc _)).mono ?_
  rintro e w2 ⟨ao, cap, rfl, hown, hb2⟩
  obtain ⟨hx2, hf2⟩ := block_facts (kept_block hb2 (alloc_block (unhide K2) _))
  have HO := hide hown
  have HB2 := hide hb2
  have hs2 := hb2.size
  simp at hs2
  clear hown hb2 hx1 hf1
  generalize hn : l.length = m at *
  have HN := hide hn
  clear hn
  have l2 : w.heap.size + 1 < w2.heap.size := (by omega); have n2 : ¬ w.heap.size + 1 = w2.heap.size := (by omega)
  go_wp2
  refine bodyPost_ret (v := outV (.slice ao m cap) on' wait' next' age' err text ask) (by simp [results, Tryz.results109, go_sem, hx2]) rfl ⟨ao, cap, by rw [HN.out], ?_, ?_⟩
  · rw [HN.out]
    refine ownsRow_base (base' := w1.heap.size + 1) ?_ (by omega)
    repeat (with_reducible refine oset ?_ ?_; (focus omega))
    have := unhide HO
    simpa using this
  · repeat (first | with_reducible exact unhide HB | with_reducible exact Below.refl _ _ | with_reducible refine bdrew ?_ | (with_reducible refine brow ?_ ?_; (focus (first | omega | (simp; done) | (simp; omega)))) | (with_reducible refine bset ?_ ?_; (focus (first | omega | (simp; done) | (simp; omega)))) | (with_reducible refine balloc ?_ ?_; (focus (first | omega | (simp; done) | (simp; omega)))) | (with_reducible refine bvia (unhide HB1) ?_ ?_; (focus (first | omega | (simp; done) | (simp; omega)))) | (with_reducible refine bvia (unhide HB2) ?_ ?_; (focus (first | omega | (simp; done) | (simp; omega)))) | (with_reducible refine bvia (unhide HB3) ?_ ?_; (focus (first | omega | (simp; done) | (simp; omega)))) | (with_reducible refine bvia (unhide HB4) ?_ ?_; (focus (first | omega | (simp; done) | (simp; omega)))) | (with_reducible refine bvia (unhide HB5) ?_ ?_; (focus (first | omega | (simp; done) | (simp; omega)))) | (with_reducible refine bvia (unhide HB6) ?_ ?_; (focus (first | omega | (simp; done) | (simp; omega)))))
set_option maxRecDepth 10000 in
set_option maxHeartbeats 1000000 in
theorem outcome_5 (hd : DevAt w b t key F on wait next age) (n : Int) (tx : ByteArray) (cut torn : Int)
    (hrec : ∀ (W : World) (_ : DevAt W b t key F on wait next age), Calls Tryz.prog 80 #[.pointer (some ⟨b, 0, none⟩)] W fun e w' => e = .returned (recV pg num kp ph tr s0 v0 s1 v1 th) ∧ Below W.heap.size W w')
    (on' : Bool) (wait' next' age' : Nat) (err : Int) (text : ByteArray) (ask : Int) (l : List GW)
    (hx : ∀ (W : World) (_ : DevAt W b t key F on wait next age), Calls Tryz.prog 135 #[.pointer (some ⟨b, 0, none⟩), recV pg num kp ph tr s0 v0 s1 v1 th, .string tx] W fun e w' => OutRaw W on' wait' next' age' err text ask l e w') :
    Calls Tryz.prog 109 #[.pointer (some ⟨b, 0, none⟩), evV 5 n tx cut torn] w fun e w' => OutRaw w on' wait' next' age' err text ask l e w' := by
  have HD := hide hd
  have HR := hide hrec
  have HX := hide hx
  clear hd hrec hx
  go_enter Tryz.func109, Tryz.ntmps109
  go_wp2_with fail
  refine (unhide HR _ (((unhide HD).alloc _).alloc _)).mono ?_
  rintro e w1 ⟨rfl, hb1⟩
  obtain ⟨k1, k2, hs1, hb⟩ := blk2 hb1
  have HD1 := hide ((((unhide HD).alloc _).alloc _).kept hb1)
  obtain ⟨hx1, hf1⟩ := block_facts k1
  have K2 := hide k2
  have HB1 := hide hb
  clear hb hb1 k1 k2
  have l1 : w.heap.size < w1.heap.size := (by omega); have n1 : ¬ w.heap.size = w1.heap.size := (by omega)
  go_wp2_with fail
  refine (unhide HX _ ((unhide HD1).alloc _)).mono ?_
  rintro e w2 ⟨ao, cap, rfl, hown, hb2⟩
  obtain ⟨hx2, hf2⟩ := block_facts (kept_block hb2 (alloc_block (unhide K2) _))
  have HO := hide hown
  have HB2 := hide hb2
  have hs2 := hb2.size
  simp at hs2
  clear hown hb2 hx1 hf1
  generalize hn : l.length = m at *
  have HN := hide hn
  clear hn
  have l2 : w.heap.size + 1 < w2.heap.size := (by omega); have n2 : ¬ w.heap.size + 1 = w2.heap.size := (by omega)
  go_wp2
  refine bodyPost_ret (v := outV (.slice ao m cap) on' wait' next' age' err text ask) (by simp [results, Tryz.results109, go_sem, hx2]) rfl ⟨ao, cap, by rw [HN.out], ?_, ?_⟩
  · rw [HN.out]
    refine ownsRow_base (base' := w1.heap.size + 1) ?_ (by omega)
    repeat (with_reducible refine oset ?_ ?_; (focus omega))
    have := unhide HO
    simpa using this
  · repeat (first | with_reducible exact unhide HB | with_reducible exact Below.refl _ _ | with_reducible refine bdrew ?_ | (with_reducible refine brow ?_ ?_; (focus (first | omega | (simp; done) | (simp; omega)))) | (with_reducible refine bset ?_ ?_; (focus (first | omega | (simp; done) | (simp; omega)))) | (with_reducible refine balloc ?_ ?_; (focus (first | omega | (simp; done) | (simp; omega)))) | (with_reducible refine bvia (unhide HB1) ?_ ?_; (focus (first | omega | (simp; done) | (simp; omega)))) | (with_reducible refine bvia (unhide HB2) ?_ ?_; (focus (first | omega | (simp; done) | (simp; omega)))) | (with_reducible refine bvia (unhide HB3) ?_ ?_; (focus (first | omega | (simp; done) | (simp; omega)))) | (with_reducible refine bvia (unhide HB4) ?_ ?_; (focus (first | omega | (simp; done) | (simp; omega)))) | (with_reducible refine bvia (unhide HB5) ?_ ?_; (focus (first | omega | (simp; done) | (simp; omega)))) | (with_reducible refine bvia (unhide HB6) ?_ ?_; (focus (first | omega | (simp; done) | (simp; omega)))))
set_option maxRecDepth 10000 in
set_option maxHeartbeats 1000000 in
theorem outcome_6 (hd : DevAt w b t key F on wait next age) (n : Int) (tx : ByteArray) (cut torn : Int)
    (hrec : ∀ (W : World) (_ : DevAt W b t key F on wait next age), Calls Tryz.prog 80 #[.pointer (some ⟨b, 0, none⟩)] W fun e w' => e = .returned (recV pg num kp ph tr s0 v0 s1 v1 th) ∧ Below W.heap.size W w')
    (on' : Bool) (wait' next' age' : Nat) (err : Int) (text : ByteArray) (ask : Int) (l : List GW)
    (hx : ∀ (W : World) (_ : DevAt W b t key F on wait next age), Calls Tryz.prog 136 #[.pointer (some ⟨b, 0, none⟩), recV pg num kp ph tr s0 v0 s1 v1 th, .int .i64 n, .string tx] W fun e w' => OutRaw W on' wait' next' age' err text ask l e w') :
    Calls Tryz.prog 109 #[.pointer (some ⟨b, 0, none⟩), evV 6 n tx cut torn] w fun e w' => OutRaw w on' wait' next' age' err text ask l e w' := by
  have HD := hide hd
  have HR := hide hrec
  have HX := hide hx
  clear hd hrec hx
  go_enter Tryz.func109, Tryz.ntmps109
  go_wp2_with fail
  refine (unhide HR _ (((unhide HD).alloc _).alloc _)).mono ?_
  rintro e w1 ⟨rfl, hb1⟩
  obtain ⟨k1, k2, hs1, hb⟩ := blk2 hb1
  have HD1 := hide ((((unhide HD).alloc _).alloc _).kept hb1)
  obtain ⟨hx1, hf1⟩ := block_facts k1
  have K2 := hide k2
  have HB1 := hide hb
  clear hb hb1 k1 k2
  have l1 : w.heap.size < w1.heap.size := (by omega); have n1 : ¬ w.heap.size = w1.heap.size := (by omega)
  go_wp2_with fail
  refine (unhide HX _ ((unhide HD1).alloc _)).mono ?_
  rintro e w2 ⟨ao, cap, rfl, hown, hb2⟩
  obtain ⟨hx2, hf2⟩ := block_facts (kept_block hb2 (alloc_block (unhide K2) _))
  have HO := hide hown
  have HB2 := hide hb2
  have hs2 := hb2.size
  simp at hs2
  clear hown hb2 hx1 hf1
  generalize hn : l.length = m at *
  have HN := hide hn
  clear hn
  have l2 : w.heap.size + 1 < w2.heap.size := (by omega); have n2 : ¬ w.heap.size + 1 = w2.heap.size := (by omega)
  go_wp2
  refine bodyPost_ret (v := outV (.slice ao m cap) on' wait' next' age' err text ask) (by simp [results, Tryz.results109, go_sem, hx2]) rfl ⟨ao, cap, by rw [HN.out], ?_, ?_⟩
  · rw [HN.out]
    refine ownsRow_base (base' := w1.heap.size + 1) ?_ (by omega)
    repeat (with_reducible refine oset ?_ ?_; (focus omega))
    have := unhide HO
    simpa using this
  · repeat (first | with_reducible exact unhide HB | with_reducible exact Below.refl _ _ | with_reducible refine bdrew ?_ | (with_reducible refine brow ?_ ?_; (focus (first | omega | (simp; done) | (simp; omega)))) | (with_reducible refine bset ?_ ?_; (focus (first | omega | (simp; done) | (simp; omega)))) | (with_reducible refine balloc ?_ ?_; (focus (first | omega | (simp; done) | (simp; omega)))) | (with_reducible refine bvia (unhide HB1) ?_ ?_; (focus (first | omega | (simp; done) | (simp; omega)))) | (with_reducible refine bvia (unhide HB2) ?_ ?_; (focus (first | omega | (simp; done) | (simp; omega)))) | (with_reducible refine bvia (unhide HB3) ?_ ?_; (focus (first | omega | (simp; done) | (simp; omega)))) | (with_reducible refine bvia (unhide HB4) ?_ ?_; (focus (first | omega | (simp; done) | (simp; omega)))) | (with_reducible refine bvia (unhide HB5) ?_ ?_; (focus (first | omega | (simp; done) | (simp; omega)))) | (with_reducible refine bvia (unhide HB6) ?_ ?_; (focus (first | omega | (simp; done) | (simp; omega)))))
set_option maxRecDepth 10000 in
set_option maxHeartbeats 1000000 in
theorem outcome_7 (hd : DevAt w b t key F on wait next age) (n : Int) (tx : ByteArray) (cut torn : Int)
    (hrec : ∀ (W : World) (_ : DevAt W b t key F on wait next age), Calls Tryz.prog 80 #[.pointer (some ⟨b, 0, none⟩)] W fun e w' => e = .returned (recV pg num kp ph tr s0 v0 s1 v1 th) ∧ Below W.heap.size W w')
    (on' : Bool) (wait' next' age' : Nat) (err : Int) (text : ByteArray) (ask : Int) (l : List GW)
    (hx : ∀ (W : World) (_ : DevAt W b t key F on wait next age), Calls Tryz.prog 137 #[.pointer (some ⟨b, 0, none⟩), recV pg num kp ph tr s0 v0 s1 v1 th] W fun e w' => OutRaw W on' wait' next' age' err text ask l e w') :
    Calls Tryz.prog 109 #[.pointer (some ⟨b, 0, none⟩), evV 7 n tx cut torn] w fun e w' => OutRaw w on' wait' next' age' err text ask l e w' := by
  have HD := hide hd
  have HR := hide hrec
  have HX := hide hx
  clear hd hrec hx
  go_enter Tryz.func109, Tryz.ntmps109
  go_wp2_with fail
  refine (unhide HR _ (((unhide HD).alloc _).alloc _)).mono ?_
  rintro e w1 ⟨rfl, hb1⟩
  obtain ⟨k1, k2, hs1, hb⟩ := blk2 hb1
  have HD1 := hide ((((unhide HD).alloc _).alloc _).kept hb1)
  obtain ⟨hx1, hf1⟩ := block_facts k1
  have K2 := hide k2
  have HB1 := hide hb
  clear hb hb1 k1 k2
  have l1 : w.heap.size < w1.heap.size := (by omega); have n1 : ¬ w.heap.size = w1.heap.size := (by omega)
  go_wp2_with fail
  refine (unhide HX _ ((unhide HD1).alloc _)).mono ?_
  rintro e w2 ⟨ao, cap, rfl, hown, hb2⟩
  obtain ⟨hx2, hf2⟩ := block_facts (kept_block hb2 (alloc_block (unhide K2) _))
  have HO := hide hown
  have HB2 := hide hb2
  have hs2 := hb2.size
  simp at hs2
  clear hown hb2 hx1 hf1
  generalize hn : l.length = m at *
  have HN := hide hn
  clear hn
  have l2 : w.heap.size + 1 < w2.heap.size := (by omega); have n2 : ¬ w.heap.size + 1 = w2.heap.size := (by omega)
  go_wp2
  refine bodyPost_ret (v := outV (.slice ao m cap) on' wait' next' age' err text ask) (by simp [results, Tryz.results109, go_sem, hx2]) rfl ⟨ao, cap, by rw [HN.out], ?_, ?_⟩
  · rw [HN.out]
    refine ownsRow_base (base' := w1.heap.size + 1) ?_ (by omega)
    repeat (with_reducible refine oset ?_ ?_; (focus omega))
    have := unhide HO
    simpa using this
  · repeat (first | with_reducible exact unhide HB | with_reducible exact Below.refl _ _ | with_reducible refine bdrew ?_ | (with_reducible refine brow ?_ ?_; (focus (first | omega | (simp; done) | (simp; omega)))) | (with_reducible refine bset ?_ ?_; (focus (first | omega | (simp; done) | (simp; omega)))) | (with_reducible refine balloc ?_ ?_; (focus (first | omega | (simp; done) | (simp; omega)))) | (with_reducible refine bvia (unhide HB1) ?_ ?_; (focus (first | omega | (simp; done) | (simp; omega)))) | (with_reducible refine bvia (unhide HB2) ?_ ?_; (focus (first | omega | (simp; done) | (simp; omega)))) | (with_reducible refine bvia (unhide HB3) ?_ ?_; (focus (first | omega | (simp; done) | (simp; omega)))) | (with_reducible refine bvia (unhide HB4) ?_ ?_; (focus (first | omega | (simp; done) | (simp; omega)))) | (with_reducible refine bvia (unhide HB5) ?_ ?_; (focus (first | omega | (simp; done) | (simp; omega)))) | (with_reducible refine bvia (unhide HB6) ?_ ?_; (focus (first | omega | (simp; done) | (simp; omega)))))
set_option maxRecDepth 10000 in
set_option maxHeartbeats 1000000 in
theorem outcome_1 (hd : DevAt w b t key F on wait next age) (n : Int) (tx : ByteArray) (cut torn : Int)
    (hrec : ∀ (W : World) (_ : DevAt W b t key F on wait next age), Calls Tryz.prog 80 #[.pointer (some ⟨b, 0, none⟩)] W fun e w' => e = .returned (recV pg num kp ph tr s0 v0 s1 v1 th) ∧ Below W.heap.size W w') :
    Calls Tryz.prog 109 #[.pointer (some ⟨b, 0, none⟩), evV 1 n tx cut torn] w fun e w' => OutRaw w false 0 0 0 0 ⟨#[]⟩ (-1) [] e w' := by
  have HD := hide hd
  have HR := hide hrec
  clear hd hrec
  go_enter Tryz.func109, Tryz.ntmps109
  go_wp2_with fail
  refine (unhide HR _ (((unhide HD).alloc _).alloc _)).mono ?_
  rintro e w1 ⟨rfl, hb1⟩
  obtain ⟨k1, k2, hs1, hb⟩ := blk2 hb1
  obtain ⟨hx1, hf1⟩ := block_facts k1
  obtain ⟨hx2, hf2⟩ := block_facts k2
  have HB := hide hb
  clear hb hb1 k1 k2
  have l1 : w.heap.size < w1.heap.size := (by omega); have n1 : ¬ w.heap.size = w1.heap.size := (by omega)
  have l2 : w.heap.size + 1 < w1.heap.size := (by omega); have n2 : ¬ w.heap.size + 1 = w1.heap.size := (by omega)
  go_wp2
  refine bodyPost_ret (v := outV (.slice none 0 0) false 0 0 0 0 ⟨#[]⟩ (-1)) (by simp [results, Tryz.results109, go_sem, hx2, l2]) rfl (raw_none rfl ?_)
  repeat (first | with_reducible exact unhide HB | with_reducible exact Below.refl _ _ | with_reducible refine bdrew ?_ | (with_reducible refine brow ?_ ?_; (focus (first | omega | (simp; done) | (simp; omega)))) | (with_reducible refine bset ?_ ?_; (focus (first | omega | (simp; done) | (simp; omega)))) | (with_reducible refine balloc ?_ ?_; (focus (first | omega | (simp; done) | (simp; omega)))) | (with_reducible refine bvia (unhide HB1) ?_ ?_; (focus (first | omega | (simp; done) | (simp; omega)))) | (with_reducible refine bvia (unhide HB2) ?_ ?_; (focus (first | omega | (simp; done) | (simp; omega)))) | (with_reducible refine bvia (unhide HB3) ?_ ?_; (focus (first | omega | (simp; done) | (simp; omega)))) | (with_reducible refine bvia (unhide HB4) ?_ ?_; (focus (first | omega | (simp; done) | (simp; omega)))) | (with_reducible refine bvia (unhide HB5) ?_ ?_; (focus (first | omega | (simp; done) | (simp; omega)))) | (with_reducible refine bvia (unhide HB6) ?_ ?_; (focus (first | omega | (simp; done) | (simp; omega)))))
theorem refuse_kind (k : Int) (hk : k < 1 ∨ 7 < k) (w : World) (b : Nat) : Calls Tryz.prog 107 #[.pointer (some ⟨b, 0, none⟩), .int .i64 k] w fun e w' => e = .returned (.int .i64 7) ∧ w = w' := by
  rcases hk with hk | hk
  · go_enter Tryz.func107, Tryz.ntmps107
    go_wp2
    go_ret
    exact ⟨rfl, rfl⟩
  · have h1 : ¬ k < 1 := by omega
    go_enter Tryz.func107, Tryz.ntmps107
    go_wp2
    go_ret
    exact ⟨rfl, rfl⟩
theorem refuse_on (hd : DevAt w b t key F true wait next age) : Calls Tryz.prog 107 #[.pointer (some ⟨b, 0, none⟩), .int .i64 2] w fun e w' => e = .returned (.int .i64 9) ∧ w = w' := by
  have hc := hd.onC
  clear hd
  go_enter Tryz.func107, Tryz.ntmps107
  go_wp2
  go_ret
  exact ⟨rfl, rfl⟩
theorem refuse_off (hd : DevAt w b t key F false wait next age) (k : Int) (h1 : 1 ≤ k) (h7 : k ≤ 7) (h2 : k ≠ 2) : Calls Tryz.prog 107 #[.pointer (some ⟨b, 0, none⟩), .int .i64 k] w fun e w' => e = .returned (.int .i64 8) ∧ w = w' := by
  have hc := hd.onC
  have g1 : ¬ k < 1 := by omega
  have g7 : ¬ 7 < k := by omega
  have g2 : (k != 2) = true := by simp [h2]
  clear hd
  go_enter Tryz.func107, Tryz.ntmps107
  go_wp2
  go_ret
  exact ⟨rfl, rfl⟩
theorem refuse_no_on (hd : DevAt w b t key F true wait next age) (k : Int) (h1 : 1 ≤ k) (h7 : k ≤ 7) (h2 : k ≠ 2) : Calls Tryz.prog 107 #[.pointer (some ⟨b, 0, none⟩), .int .i64 k] w fun e w' => e = .returned (.int .i64 0) ∧ w = w' := by
  have hc := hd.onC
  have g1 : ¬ k < 1 := by omega
  have g7 : ¬ 7 < k := by omega
  clear hd
  go_enter Tryz.func107, Tryz.ntmps107
  go_wp2
  go_ret
  exact ⟨rfl, rfl⟩
theorem refuse_no_off (hd : DevAt w b t key F false wait next age) : Calls Tryz.prog 107 #[.pointer (some ⟨b, 0, none⟩), .int .i64 2] w fun e w' => e = .returned (.int .i64 0) ∧ w = w' := by
  have hc := hd.onC
  clear hd
  go_enter Tryz.func107, Tryz.ntmps107
  go_wp2
  go_ret
  exact ⟨rfl, rfl⟩
end
end Go.Proofs.YtjfmiomopfjecabGreat

/- Do, over what an event comes to. -/
namespace Go.Proofs.YtjfmiomopfjecabGreat
open Go.RowKit Go.Lib

theorem ol_set {p : Nat → Prop} {w W : World} {g o : Nat} {v : Value} (hg : w.heap.size ≤ g) (h : Only p w W) : Only p w (W.setCell ⟨g, o, none⟩ v) := by
  refine ⟨h.os, h.tape, h.output, ?_, fun k hk hn => ?_⟩
  · exact Nat.le_trans h.size (by simp [World.setCell])
  · rw [Below.heap_setCell _ _ _ _ (by show ¬ k = g; omega)]
    exact h.block k hk hn
theorem ol_dev {b : Nat} {w W : World} {o : Nat} {v : Value} (h : Only (· = b) w W) : Only (· = b) w (W.setCell ⟨b, o, none⟩ v) := h.trans (only_set W b o v)
theorem ol_alloc {p : Nat → Prop} {w W : World} {o : Obj} (h : Only p w W) : Only p w (W.alloc o) := h.trans (only_alloc p W o)
theorem ol_drew {p : Nat → Prop} {w W : World} (h : Only p w W) : Only p w W.drew := h.drew
theorem ol_via {p : Nat → Prop} {w X W : World} (hX : Below X.heap.size X W) (h : Only p w X) : Only p w W := h.trans (Only.of hX)
def DoPost (w : World) (b : Nat) (t : TypeId) (key : ByteArray) (F' : Nat → Nat) (on' : Bool) (wait' next' age' : Nat) (err ver : Int) (text : ByteArray) (ask : Int) (lasts : Bool) (e : Ending) (w' : World) : Prop :=
  (lasts = false → e = .returned (repV 10 0 ⟨#[]⟩ (-1)) ∧ DevAt w' b t key F' false 0 0 0) ∧
  (lasts = true → DevAt w' b t key F' on' wait' next' age' ∧ (err ≠ 0 → e = .returned (repV err 0 ⟨#[]⟩ (-1))) ∧ (err = 0 → e = .returned (repV 0 ver text ask))) ∧ Only (· = b) w w'
section
variable {w w' : World} {b : Nat} {t : TypeId} {key : ByteArray} {F' : Nat → Nat} {on' : Bool} {wait' next' age' : Nat} {err ver : Int} {text : ByteArray} {ask : Int} {lasts : Bool} {v : Value}
theorem post_cut (hl : lasts = false) (hv : v = repV 10 0 ⟨#[]⟩ (-1)) (hd : DevAt w' b t key F' false 0 0 0) (ho : Only (· = b) w w') : DoPost w b t key F' on' wait' next' age' err ver text ask lasts (.returned v) w' :=
  ⟨fun _ => ⟨by rw [hv], hd⟩, fun h => (by rw [hl] at h; cases h), ho⟩
theorem post_err (hl : lasts = true) (he : err ≠ 0) (hv : v = repV err 0 ⟨#[]⟩ (-1)) (hd : DevAt w' b t key F' on' wait' next' age') (ho : Only (· = b) w w') : DoPost w b t key F' on' wait' next' age' err ver text ask lasts (.returned v) w' :=
  ⟨fun h => (by rw [hl] at h; cases h), fun _ => ⟨hd, fun _ => by rw [hv], fun h => absurd h he⟩, ho⟩
theorem post_ok (hl : lasts = true) (he : err = 0) (hv : v = repV 0 ver text ask) (hd : DevAt w' b t key F' on' wait' next' age') (ho : Only (· = b) w w') : DoPost w b t key F' on' wait' next' age' err ver text ask lasts (.returned v) w' :=
  ⟨fun h => (by rw [hl] at h; cases h), fun _ => ⟨hd, fun h => absurd he h, fun _ => by rw [hv]⟩, ho⟩
end
section
variable {w : World} {b : Nat} {t : TypeId} {key : ByteArray} {F : Nat → Nat} {on : Bool} {wait next age : Nat}
set_option maxRecDepth 10000 in
theorem rawDo_refused (hd : DevAt w b t key F on wait next age) (k n : Int) (tx : ByteArray) (cut torn err : Int) (he : err ≠ 0)
    (hrf : ∀ (W : World) (_ : DevAt W b t key F on wait next age), Calls Tryz.prog 107 #[.pointer (some ⟨b, 0, none⟩), .int .i64 k] W fun e w' => e = .returned (.int .i64 err) ∧ W = w') :
    Calls Tryz.prog 77 #[.pointer (some ⟨b, 0, none⟩), evV k n tx cut torn] w fun e w' => e = .returned (repV err 0 ⟨#[]⟩ (-1)) ∧ Below w.heap.size w w' := by
  have HD := hide hd
  have HR := hide hrf
  have hn0 : (err != 0) = true := by simp [he]
  clear hd hrf
  go_enter Tryz.func77, Tryz.ntmps77
  go_wp2_with fail
  refine (unhide HR _ (((unhide HD).alloc _).alloc _)).mono ?_
  rintro e w' ⟨rfl, rfl⟩
  go_wp2_with fail
  refine (devFailed_any err _).mono ?_
  rintro e w1 ⟨rfl, hb1⟩
  obtain ⟨k1, k2, hs1, hb⟩ := blk2 hb1
  obtain ⟨hx2, hf2⟩ := block_facts k2
  have HB := hide hb
  clear hb hb1 k1 k2
  have l2 : w.heap.size + 1 < w1.heap.size := (by omega); have n2 : ¬ w.heap.size + 1 = w1.heap.size := (by omega)
  go_wp2
  refine bodyPost_ret (v := repV err 0 ⟨#[]⟩ (-1)) (by simp [results, Tryz.results77, go_sem, hx2]) rfl ⟨rfl, ?_⟩
  repeat (first | with_reducible exact unhide HB | with_reducible exact Below.refl _ _ | with_reducible refine bdrew ?_ | (with_reducible refine brow ?_ ?_; (focus (first | omega | (simp; done) | (simp; omega)))) | (with_reducible refine bset ?_ ?_; (focus (first | omega | (simp; done) | (simp; omega)))) | (with_reducible refine balloc ?_ ?_; (focus (first | omega | (simp; done) | (simp; omega)))) | (with_reducible refine bvia (unhide HB1) ?_ ?_; (focus (first | omega | (simp; done) | (simp; omega)))) | (with_reducible refine bvia (unhide HB2) ?_ ?_; (focus (first | omega | (simp; done) | (simp; omega)))) | (with_reducible refine bvia (unhide HB3) ?_ ?_; (focus (first | omega | (simp; done) | (simp; omega)))) | (with_reducible refine bvia (unhide HB4) ?_ ?_; (focus (first | omega | (simp; done) | (simp; omega)))) | (with_reducible refine bvia (unhide HB5) ?_ ?_; (focus (first | omega | (simp; done) | (simp; omega)))) | (with_reducible refine bvia (unhide HB6) ?_ ?_; (focus (first | omega | (simp; done) | (simp; omega)))))
set_option maxRecDepth 10000 in
set_option maxHeartbeats 2000000 in
theorem rawDo (hd : DevAt w b t key F on wait next age) (k n : Int) (tx : ByteArray) (cut torn : Int)
    (hrf : ∀ (W : World) (_ : DevAt W b t key F on wait next age), Calls Tryz.prog 107 #[.pointer (some ⟨b, 0, none⟩), .int .i64 k] W fun e w' => e = .returned (.int .i64 0) ∧ W = w')
    (on' : Bool) (wait' next' age' : Nat) (err : Int) (text : ByteArray) (ask : Int) (l : List GW) (hl : ∀ a ∈ l, a.1 < 23 ∧ a.2.size ≤ maxLen) (hlen : l.length ≤ 20)
    (hout : ∀ (W : World) (_ : DevAt W b t key F on wait next age), Calls Tryz.prog 109 #[.pointer (some ⟨b, 0, none⟩), evV k n tx cut torn] W fun e w' => OutRaw W on' wait' next' age' err text ask l e w')
    (sb : Bool) (i1 i2 ver i4 i5 i6 : Int)
    (hst : err = 0 → lastsB cut l.length = true → ∀ (W : World) (_ : DevAt W b t key (writtenF F l cut torn) on' wait' next' age'), Calls Tryz.prog 61 #[.pointer (some ⟨b, 0, none⟩)] W fun e w' => e = .returned (.agg #[.bool sb, .int .i64 i1, .int .i64 i2, .int .i64 ver, .int .i64 i4, .int .i64 i5, .int .i64 i6]) ∧ Below W.heap.size W w') :
    Calls Tryz.prog 77 #[.pointer (some ⟨b, 0, none⟩), evV k n tx cut torn] w fun e w' => DoPost w b t key (writtenF F l cut torn) on' wait' next' age' err ver text ask (lastsB cut l.length) e w' := by
  have hlt := hd.lt
  have HD := hide hd
  have HR := hide hrf
  have HOU := hide hout
  have HST := hide hst
  have HL := hide hl
  clear hd hrf hout hst hl
  go_enter Tryz.func77, Tryz.ntmps77
  go_wp2_with fail
  refine (unhide HR _ (((unhide HD).alloc _).alloc _)).mono ?_
  rintro e w' ⟨rfl, rfl⟩
  go_wp2_with fail
  refine (unhide HOU _ (((unhide HD).alloc _).alloc _)).mono ?_
  rintro e w3 ⟨ao, cap, rfl, hown, hb3⟩
  obtain ⟨k1, k2, hs3, hb⟩ := blk2 hb3
  have HD3 := hide ((((unhide HD).alloc _).alloc _).kept hb3)
  have K1 := hide k1
  have K2 := hide k2
  have HB3 := hide hb
  have hown' : w3.ownsRow (w.heap.size + 1 + 1) 136 2 (.slice ao l.length cap) l.length (gwCells l) := by simpa using hown
  have HO3 := hide hown'
  clear hb hb3 k1 k2 hown hown' HR HOU
  go_wp2_with fail
  have rule1 : ∀ (X : World) (o : Nat), X.heap[w3.heap.size]? = some (.cells (outC (.slice ao l.length cap) on' wait' next' age' err text ask) 163 (0, 0)) → X.cell? ⟨w3.heap.size, o, none⟩ = (outC (.slice ao l.length cap) on' wait' next' age' err text ask)[o]? := fun X o h => cell_in h o
  have rule2 : ∀ (X : World) (o : Nat), X.heap[w.heap.size]? = some (.cells #[.int .i64 k, .int .i64 n, .string tx, .int .i64 cut, .int .i64 torn] 74 (0, 0)) → X.cell? ⟨w.heap.size, o, none⟩ = (#[.int .i64 k, .int .i64 n, .string tx, .int .i64 cut, .int .i64 torn] : Array Value)[o]? := fun X o h => cell_in h o
  go_region_held3 (fun X => X.heap[w3.heap.size]? = some (.cells (outC (.slice ao l.length cap) on' wait' next' age' err text ask) 163 (0, 0)) ∧ X.heap[w.heap.size]? = some (.cells #[.int .i64 k, .int .i64 n, .string tx, .int .i64 cut, .int .i64 torn] 74 (0, 0))) (refine ⟨?_, ?_⟩ <;> (repeat (first | with_reducible exact hC1 | with_reducible exact hC2 | with_reducible exact unhide K1 | with_reducible exact last_block _ _ rfl | with_reducible refine ablk ?_ | with_reducible refine drew_block ?_))) ((go_at_call 76; refine (writeAll_any (((unhide HD3).alloc _).drew) _ l cut torn (HoldsRow.mono (holdsRow_own (unhide HO3)) ((Below.refl _ _).alloc (Nat.le_refl _) _).drew) (fun e => by have := ((unhide HO3).lt _ e).1; omega) (by omega) (unhide HL)).mono ?_; rintro e w4 ⟨rfl, hd4, ho4⟩; have hC1 := (ho4.block w3.heap.size (by simp) (by omega)).trans (drew_block (last_block _ _ rfl)); have hC2 := (ho4.block w.heap.size (by simp; omega) (by omega)).trans (drew_block (alloc_block (unhide K1) _))))
  have k2 := (ho4.block (w.heap.size + 1) (by simp; omega) (by omega)).trans (drew_block (alloc_block (unhide K2) _))
  have hs4 := ho4.size
  simp at hs4
  have HOL4 : Hid (Only (· = b) w w4) := ((Only.of (unhide HB3)).trans ((only_alloc _ w3 _).drew)).trans ho4
  obtain ⟨hxo, hfo⟩ := block_facts hC1
  have KO := hide hC1
  have K4 := hide k2
  have HD4 := hide hd4
  have c1 := hd4.onC
  have c2 := hd4.waitC
  have c3 := hd4.nextC
  have c4 := hd4.ageC
  have hfd := hd4.free
  have nb1 : ¬ w3.heap.size = b := by omega
  have nb2 : ¬ b = w3.heap.size := by omega
  have nb3 : ¬ w.heap.size + 1 = b := by omega
  have nb4 : ¬ b = w.heap.size + 1 := by omega
  clear rule1 rule2 hC1 hC2 ho4 hd4 k2 K1 K2 HB3 HO3 HD3
  generalize hLS : lastsB cut l.length = ls at *
  have HLS0 := hide hLS
  clear hLS
  cases ls
  · have HLS : Hid (lastsB cut l.length = false) := HLS0
    clear hxo hfo
    go_wp2_with fail
    refine (devFailed_any 10 _).mono ?_
    rintro e w5 ⟨rfl, hb5⟩
    have kd : w5.heap[b]? = some (.cells (devCells key (writtenF F l cut torn) false 0 0 0) t (0, 0)) := kept_block hb5 (((((unhide HD4).setOn false).setWait 0).setNext 0).setAge 0)
    have kr := kept_block hb5 (sblk nb3 (sblk nb3 (sblk nb3 (sblk nb3 (unhide K4)))))
    obtain ⟨hxr, hfr⟩ := block_facts kr
    have KD := hide kd
    have HB6 := hide hb5
    have HOL := HOL4
    have hs5 := hb5.size
    simp at hs5
    clear hb5 kd kr c1 c2 c3 c4 hfd
    have l5 : w.heap.size + 1 < w5.heap.size := (by omega); have n5 : ¬ w.heap.size + 1 = w5.heap.size := (by omega)
    go_wp2
    refine bodyPost_ret (v := repV 10 0 ⟨#[]⟩ (-1)) (by simp [results, Tryz.results77, go_sem, hxr]) rfl (post_cut HLS.out rfl ?_ ?_)
    · unfold DevAt
      repeat (first | with_reducible exact unhide KD | (with_reducible refine lblk ?_; (focus (first | rfl | (simp; done)))) | with_reducible refine ablk ?_ | with_reducible refine drew_block ?_ | (with_reducible refine sblk ?_ ?_; (focus (first | omega | (simp; done) | (simp; omega)))))
    · repeat (first | with_reducible exact unhide HOL | with_reducible refine ol_drew ?_ | with_reducible refine ol_dev ?_ | (with_reducible refine ol_set ?_ ?_; (focus (first | omega | (simp; done) | (simp; omega)))) | with_reducible refine ol_alloc ?_ | with_reducible refine ol_via (unhide HB6) ?_ | with_reducible refine ol_via (unhide HB7) ?_)
  · have HLS : Hid (lastsB cut l.length = true) := HLS0
    by_cases he : err = 0
    · subst he
      have HST' := hide (unhide HST rfl rfl)
      clear HST
      go_wp2_with fail
      refine (unhide HST' _ (((((unhide HD4).setOn on').setWait wait').setNext next').setAge age')).mono ?_
      rintro e w5 ⟨rfl, hb5⟩
      have kd : w5.heap[b]? = some (.cells (devCells key (writtenF F l cut torn) on' wait' next' age') t (0, 0)) := kept_block hb5 (((((unhide HD4).setOn on').setWait wait').setNext next').setAge age')
      have kr := kept_block hb5 (sblk nb3 (sblk nb3 (sblk nb3 (sblk nb3 (unhide K4)))))
      have ko := kept_block hb5 (sblk nb1 (sblk nb1 (sblk nb1 (sblk nb1 (unhide KO)))))
      clear hxo hfo
      obtain ⟨hxr, hfr⟩ := block_facts kr
      obtain ⟨hxo, hfo⟩ := block_facts ko
      have KD := hide kd
      have HB6 := hide hb5
      have HOL := HOL4
      have hs5 := hb5.size
      simp at hs5
      clear hb5 kd kr ko c1 c2 c3 c4 hfd HST'
      have l5 : w.heap.size + 1 < w5.heap.size := (by omega); have n5 : ¬ w.heap.size + 1 = w5.heap.size := (by omega)
      have l6 : w3.heap.size < w5.heap.size := (by omega); have n6 : ¬ w3.heap.size = w5.heap.size := (by omega)
      go_wp2
      refine bodyPost_ret (v := repV 0 ver text ask) (by simp [results, Tryz.results77, go_sem, hxr, l5]) rfl (post_ok HLS.out rfl rfl ?_ ?_)
      · unfold DevAt
        repeat (first | with_reducible exact unhide KD | (with_reducible refine lblk ?_; (focus (first | rfl | (simp; done)))) | with_reducible refine ablk ?_ | with_reducible refine drew_block ?_ | (with_reducible refine sblk ?_ ?_; (focus (first | omega | (simp; done) | (simp; omega)))))
      · repeat (first | with_reducible exact unhide HOL | with_reducible refine ol_drew ?_ | with_reducible refine ol_dev ?_ | (with_reducible refine ol_set ?_ ?_; (focus (first | omega | (simp; done) | (simp; omega)))) | with_reducible refine ol_alloc ?_ | with_reducible refine ol_via (unhide HB6) ?_ | with_reducible refine ol_via (unhide HB7) ?_)
    · have hn0 : (err != 0) = true := by simp [he]
      go_wp2_with fail
      refine (devFailed_any err _).mono ?_
      rintro e w5 ⟨rfl, hb5⟩
      have kd : w5.heap[b]? = some (.cells (devCells key (writtenF F l cut torn) on' wait' next' age') t (0, 0)) := kept_block hb5 (((((unhide HD4).setOn on').setWait wait').setNext next').setAge age')
      have kr := kept_block hb5 (sblk nb3 (sblk nb3 (sblk nb3 (sblk nb3 (unhide K4)))))
      clear hxo hfo
      obtain ⟨hxr, hfr⟩ := block_facts kr
      have KD := hide kd
      have HB6 := hide hb5
      have HOL := HOL4
      have hs5 := hb5.size
      simp at hs5
      clear hb5 kd kr c1 c2 c3 c4 hfd HST
      have l5 : w.heap.size + 1 < w5.heap.size := (by omega); have n5 : ¬ w.heap.size + 1 = w5.heap.size := (by omega)
      go_wp2
      refine bodyPost_ret (v := repV err 0 ⟨#[]⟩ (-1)) (by simp [results, Tryz.results77, go_sem, hxr]) rfl (post_err HLS.out he rfl ?_ ?_)
      · unfold DevAt
        repeat (first | with_reducible exact unhide KD | (with_reducible refine lblk ?_; (focus (first | rfl | (simp; done)))) | with_reducible refine ablk ?_ | with_reducible refine drew_block ?_ | (with_reducible refine sblk ?_ ?_; (focus (first | omega | (simp; done) | (simp; omega)))))
      · repeat (first | with_reducible exact unhide HOL | with_reducible refine ol_drew ?_ | with_reducible refine ol_dev ?_ | (with_reducible refine ol_set ?_ ?_; (focus (first | omega | (simp; done) | (simp; omega)))) | with_reducible refine ol_alloc ?_ | with_reducible refine ol_via (unhide HB6) ?_ | with_reducible refine ol_via (unhide HB7) ?_)
end
end Go.Proofs.YtjfmiomopfjecabGreat

/- What the program does at an event is what the document says. -/
namespace Go.Proofs.YtjfmiomopfjecabGreat
open Go.RowKit Go.Lib

/-- a device in memory is this one; what it remembers counts only while it is on -/
def DevRel (W : World) (b : Nat) (t : TypeId) (d : M.Dev) : Prop :=
  ∃ wait next age, DevAt W b t d.key d.F d.on wait next age ∧ (d.on = true → wait = d.wait ∧ next = d.next ∧ age = d.age)
theorem DevRel.lt {W : World} {b : Nat} {t : TypeId} {d : M.Dev} (h : DevRel W b t d) : b < W.heap.size := by
  obtain ⟨_, _, _, hd, _⟩ := h
  exact hd.lt
theorem DevRel.kept {W W' : World} {b : Nat} {t : TypeId} {d : M.Dev} (h : DevRel W b t d) (hb : Below W.heap.size W W') : DevRel W' b t d := by
  obtain ⟨x, y, z, hd, hm⟩ := h
  exact ⟨x, y, z, hd.kept hb, hm⟩
theorem DevRel.only {W W' : World} {b : Nat} {t : TypeId} {d : M.Dev} {p : Nat → Prop} (h : DevRel W b t d) (ho : Only p W W') (hn : ¬ p b) : DevRel W' b t d := by
  obtain ⟨x, y, z, hd, hm⟩ := h
  exact ⟨x, y, z, (ho.block b hd.lt hn).trans hd, hm⟩
/-- the answer, as it lies in memory -/
abbrev rpV (r : M.Rp) : Value := repV r.err r.ver r.text r.ask
def Played (W : World) (b : Nat) (t : TypeId) (d : M.Dev) (e : M.Ev) (x : Ending) (w' : World) : Prop := x = .returned (rpV (M.doM d e).2) ∧ DevRel w' b t (M.doM d e).1 ∧ Only (· = b) W w'
theorem lasts_cuts {e : M.Ev} {l : List GW} {p : M.Plan} (hl : Link l p) : lastsB e.cut l.length = !M.cuts e p.ws := by
  have h := length_res hl.2.2
  rw [gwsOf_length] at h
  unfold lastsB M.cuts
  rw [h]
theorem written_is {F : Nat → Nat} {e : M.Ev} {l : List GW} {p : M.Plan} (hl : Link l p) : writtenF F l e.cut e.torn = if M.cuts e p.ws = true then M.cutAt F p.ws e.cut.toNat (M.tornN e.torn) else M.puts F p.ws := by
  have h := length_res hl.2.2
  rw [gwsOf_length] at h
  unfold writtenF M.cuts
  by_cases hc : 0 ≤ e.cut ∧ e.cut < l.length
  · rw [if_pos hc, if_pos (by rw [← h]; exact decide_eq_true hc), cut_res hl.2.2 _ _ (M.tornN_le _)]
  · rw [if_neg hc, if_neg (by rw [← h, decide_eq_false hc]; decide), puts_res hl.2.2]
section
variable {d : M.Dev} {W w' : World} {b : Nat} {t : TypeId} {e : M.Ev} {x : Ending}
/-- nothing is done but that an error is answered -/
theorem played_fails {n : Nat} (hn : n ≠ 0) (hp : M.planned d e = M.fails d n) (hrel : DevRel W b t d) (hx : x = .returned (repV n 0 ⟨#[]⟩ (-1))) (hb : Below W.heap.size W w') : Played W b t d e x w' := by
  have hc : M.cuts e (M.planned d e).ws = false := by rw [hp]; unfold M.cuts M.fails; simp
  have ed : M.doM d e = (⟨d.key, d.F, d.on, d.wait, d.next, d.age⟩, ⟨n, 0, ⟨#[]⟩, -1⟩) := by
    unfold M.doM
    rw [hc, if_neg (by decide), hp]
    refine congrArg (Prod.mk _) ?_
    show M.Rp.mk n (if n = 0 ∧ d.on = true then _ else 0) ⟨#[]⟩ (-1) = _
    rw [if_neg (fun h => hn h.1)]
  unfold Played
  rw [ed]
  exact ⟨hx, hrel.kept hb, Only.of hb⟩
theorem played_post {p : M.Plan} (hp : M.planned d e = p) {l : List GW} (hl : Link l p) {wait' next' age' : Nat} {ver : Nat} (herr : p.err ≠ 0 → p.text = ⟨#[]⟩ ∧ p.ask = -1) (hmem : p.on = true → wait' = p.wait ∧ next' = p.next ∧ age' = p.age)
    (hver : ver = if p.on = true then M.verOf (M.puts d.F p.ws) (M.servedD (M.puts d.F p.ws)) else 0)
    (h : DoPost W b t d.key (writtenF d.F l e.cut e.torn) p.on wait' next' age' p.err ver p.text p.ask (lastsB e.cut l.length) x w') : Played W b t d e x w' := by
  obtain ⟨h1, h2, h3⟩ := h
  rw [written_is hl] at h1 h2
  rw [lasts_cuts hl] at h1 h2
  unfold Played
  cases hc : M.cuts e p.ws
  · rw [hc] at h2
    obtain ⟨hd, he, hk⟩ := h2 rfl
    rw [if_neg (by decide)] at hd
    have ed : M.doM d e = (⟨d.key, M.puts d.F p.ws, p.on, p.wait, p.next, p.age⟩, ⟨p.err, if p.err = 0 ∧ p.on = true then M.verOf (M.puts d.F p.ws) (M.servedD (M.puts d.F p.ws)) else 0, p.text, p.ask⟩) := by
      unfold M.doM
      rw [hp, hc, if_neg (by decide)]
    rw [ed]
    refine ⟨?_, ⟨wait', next', age', hd, hmem⟩, h3⟩
    by_cases h0 : p.err = 0
    · rw [hk (by omega), hver]
      show Ending.returned (repV 0 _ _ _) = Ending.returned (repV p.err _ _ _)
      rw [h0]
      by_cases ho : p.on = true
      · rw [if_pos ho, if_pos ⟨rfl, ho⟩]; rfl
      · rw [if_neg ho, if_neg (fun h => ho h.2)]; rfl
    · rw [he (by omega)]
      show Ending.returned (repV p.err 0 ⟨#[]⟩ (-1)) = Ending.returned (repV p.err (if p.err = 0 ∧ p.on = true then _ else 0 : Nat) p.text p.ask)
      rw [if_neg (fun h => h0 h.1), (herr h0).1, (herr h0).2]
      rfl
  · rw [hc] at h1
    obtain ⟨hx, hd⟩ := h1 rfl
    rw [if_pos rfl] at hd
    have ed : M.doM d e = ({ d with F := M.cutAt d.F p.ws e.cut.toNat (M.tornN e.torn), on := false }, ⟨10, 0, ⟨#[]⟩, -1⟩) := by
      unfold M.doM
      rw [hp, hc, if_pos rfl]
    rw [ed]
    exact ⟨hx, ⟨0, 0, 0, hd, fun h => by cases h⟩, h3⟩
theorem ticks_on (d : M.Dev) : (M.ticks d).on = d.on := by
  unfold M.ticks
  by_cases h2 : M.fld d.F 2 = 2
  · rw [if_pos h2]
  · rw [if_neg h2]
    by_cases h1 : M.fld d.F 2 = 1
    · rw [if_pos h1]
      cases M.missing d.F with
      | nil =>
        show (M.installs d).on = d.on
        unfold M.installs
        split <;> rfl
      | cons i r =>
        show (if d.wait ≤ 1 then _ else _ : M.Plan).on = d.on
        split <;> rfl
    · rw [if_neg h1]
      rfl
theorem ticks_err (d : M.Dev) (h : (M.ticks d).err ≠ 0) : (M.ticks d).text = ⟨#[]⟩ ∧ (M.ticks d).ask = -1 := by
  unfold M.ticks at *
  by_cases h2 : M.fld d.F 2 = 2
  · rw [if_pos h2]
    exact ⟨rfl, rfl⟩
  · rw [if_neg h2] at h ⊢
    by_cases h1 : M.fld d.F 2 = 1
    · rw [if_pos h1] at h ⊢
      cases hm : M.missing d.F with
      | nil =>
        show (M.installs d).text = ⟨#[]⟩ ∧ (M.installs d).ask = -1
        unfold M.installs
        split <;> exact ⟨rfl, rfl⟩
      | cons i r =>
        rw [hm] at h
        have h' : (if d.wait ≤ 1 then (⟨[], 0, ⟨#[]⟩, i, d.next, min 8 (2 * d.next), d.age, d.on⟩ : M.Plan) else ⟨[], 0, ⟨#[]⟩, -1, d.wait - 1, d.next, d.age, d.on⟩).err ≠ 0 := h
        exfalso
        by_cases hw : d.wait ≤ 1
        · rw [if_pos hw] at h'; exact h' rfl
        · rw [if_neg hw] at h'; exact h' rfl
    · rw [if_neg h1]
      exact ⟨rfl, rfl⟩
theorem offers_on (d : M.Dev) (s : ByteArray) : (M.offers d s).on = d.on ∧ (M.offers d s).text = ⟨#[]⟩ ∧ (M.offers d s).ask = -1 := by
  unfold M.offers
  split
  · exact ⟨rfl, rfl, rfl⟩
  · split
    · exact ⟨rfl, rfl, rfl⟩
    · split <;> exact ⟨rfl, rfl, rfl⟩
theorem takes_on (d : M.Dev) (i : Int) (s : ByteArray) : (M.takes d i s).on = d.on ∧ (M.takes d i s).text = ⟨#[]⟩ ∧ (M.takes d i s).ask = -1 := by
  unfold M.takes
  split
  · exact ⟨rfl, rfl, rfl⟩
  · split
    · exact ⟨rfl, rfl, rfl⟩
    · split <;> exact ⟨rfl, rfl, rfl⟩
theorem confirms_on (d : M.Dev) : (M.confirms d).on = d.on ∧ (M.confirms d).text = ⟨#[]⟩ ∧ (M.confirms d).ask = -1 := by
  unfold M.confirms
  split <;> exact ⟨rfl, rfl, rfl⟩
/-- an event behind which the device is on -/
theorem play_on (hI : M.Inv' d) {wait next age : Nat} (hd : DevAt W b t d.key d.F d.on wait next age) {p : M.Plan} (hp : M.planned d e = p) (hon : p.on = true) (herr : p.err ≠ 0 → p.text = ⟨#[]⟩ ∧ p.ask = -1) {l : List GW} (hl : Link l p)
    (hrf : ∀ (X : World) (_ : DevAt X b t d.key d.F d.on wait next age), Calls Tryz.prog 107 #[.pointer (some ⟨b, 0, none⟩), .int .i64 e.kind] X fun y w' => y = .returned (.int .i64 0) ∧ X = w')
    (hout : ∀ (X : World) (_ : DevAt X b t d.key d.F d.on wait next age), Calls Tryz.prog 109 #[.pointer (some ⟨b, 0, none⟩), evV e.kind e.n e.text e.cut e.torn] X fun y w' => OutRaw X p.on p.wait p.next p.age p.err p.text p.ask l y w') :
    Calls Tryz.prog 77 #[.pointer (some ⟨b, 0, none⟩), evV e.kind e.n e.text e.cut e.torn] W fun y w' => Played W b t d e y w' := by
  have hI2 := M.inv_do hI e
  have hst : (p.err : Int) = 0 → lastsB e.cut l.length = true → ∀ (X : World) (_ : DevAt X b t d.key (writtenF d.F l e.cut e.torn) p.on p.wait p.next p.age), Calls Tryz.prog 61 #[.pointer (some ⟨b, 0, none⟩)] X fun y w' => y = .returned (.agg #[.bool true, .int .i64 (M.fld (M.puts d.F p.ws) 2), .int .i64 (M.servedD (M.puts d.F p.ws)), .int .i64 (M.verOf (M.puts d.F p.ws) (M.servedD (M.puts d.F p.ws))), .int .i64 (M.verOf (M.puts d.F p.ws) (M.fld (M.puts d.F p.ws) 1)), .int .i64 (M.fld (M.puts d.F p.ws) 3), .int .i64 (if M.fld (M.puts d.F p.ws) 2 = 1 then (M.missing (M.puts d.F p.ws)).length else 0 : Nat)]) ∧ Below X.heap.size X w' := by
    intro _ hls X hX
    rw [lasts_cuts hl] at hls
    have hc : M.cuts e p.ws = false := by
      cases h : M.cuts e p.ws
      · rfl
      · rw [h] at hls; cases hls
    rw [written_is hl, hc, if_neg (by decide), hon] at hX
    have ed : (M.doM d e).1 = ⟨d.key, M.puts d.F p.ws, p.on, p.wait, p.next, p.age⟩ := by
      unfold M.doM
      rw [hp, hc, if_neg (by decide)]
    rw [ed] at hI2
    exact stat_on hI2 hX
  refine (rawDo hd e.kind e.n e.text e.cut e.torn hrf p.on p.wait p.next p.age p.err p.text p.ask l hl.1 hl.2.1 hout true _ _ _ _ _ _ hst).mono ?_
  intro y w' hy
  exact played_post hp hl herr (fun _ => ⟨rfl, rfl, rfl⟩) (by rw [if_pos hon]) hy
theorem devDo_any (hI : M.Inv' d) (hz : M.Tz d.F) (hk : d.key.size ≤ 16) (e : M.Ev) (ht : e.text.size ≤ maxLen) (hrel : DevRel W b t d) :
    Calls Tryz.prog 77 #[.pointer (some ⟨b, 0, none⟩), evV e.kind e.n e.text e.cut e.torn] W fun y w' => Played W b t d e y w' := by
  obtain ⟨wait, next, age, hd, hm⟩ := id hrel
  have hF := hI.2.1.bytes
  by_cases hkd : e.kind < 1 ∨ 7 < e.kind
  · have hp : M.planned d e = M.fails d 7 := if_pos hkd
    refine (rawDo_refused hd e.kind e.n e.text e.cut e.torn 7 (by decide) (fun X _ => refuse_kind e.kind hkd X b)).mono ?_
    rintro y w' ⟨hy, hb⟩
    exact played_fails (by decide) hp hrel hy hb
  by_cases ho : d.on = true
  · obtain ⟨rfl, rfl, rfl⟩ := hm ho
    by_cases hk2 : e.kind = 2
    · have hp : M.planned d e = M.fails d 9 := by unfold M.planned; rw [if_neg hkd, if_pos ⟨hk2, ho⟩]
      rw [ho] at hd
      refine (rawDo_refused hd e.kind e.n e.text e.cut e.torn 9 (by decide) (fun X hX => by rw [hk2]; exact refuse_on hX)).mono ?_
      rintro y w' ⟨hy, hb⟩
      exact played_fails (by decide) hp hrel hy hb
    have hrf : ∀ (X : World) (_ : DevAt X b t d.key d.F d.on d.wait d.next d.age), Calls Tryz.prog 107 #[.pointer (some ⟨b, 0, none⟩), .int .i64 e.kind] X fun y w' => y = .returned (.int .i64 0) ∧ X = w' := by
      intro X hX
      rw [ho] at hX
      exact refuse_no_on hX e.kind (by omega) (by omega) hk2
    have hrec : ∀ (X : World) (_ : DevAt X b t d.key d.F d.on d.wait d.next d.age), Calls Tryz.prog 80 #[.pointer (some ⟨b, 0, none⟩)] X fun y w' => y = .returned (recF d.F) ∧ Below X.heap.size X w' := fun X hX => devRecord_any hX hF
    have hp0 : M.planned d e = if e.kind = 1 then { M.idle d with on := false } else if e.kind = 3 then M.ticks d else if e.kind = 4 then M.infers d e.text else if e.kind = 5 then M.offers d e.text else if e.kind = 6 then M.takes d e.n e.text else M.confirms d := by
      unfold M.planned
      rw [if_neg hkd, if_neg (fun h => hk2 h.1), if_neg (fun h => by rw [ho] at h; cases h.2), if_neg hk2]
    by_cases h1 : e.kind = 1
    · rw [if_pos h1] at hp0
      have hl : Link [] (M.planned d e) := link_none (by rw [hp0]; rfl)
      refine (rawDo hd e.kind e.n e.text e.cut e.torn hrf false 0 0 0 0 ⟨#[]⟩ (-1) [] hl.1 hl.2.1 (fun X hX => by rw [h1]; exact outcome_1 hX e.n e.text e.cut e.torn (hrec)) false 0 0 0 0 0 0 (fun _ _ X hX => devStatus_off hX)).mono ?_
      intro y w' hy
      refine played_post (p := M.planned d e) (ver := 0) rfl hl (fun h => absurd rfl (by rw [hp0] at h; exact h)) (fun h => by rw [hp0] at h; cases h) (by rw [hp0]; rfl) (wait' := 0) (next' := 0) (age' := 0) ?_
      rw [hp0]
      exact hy
    rw [if_neg h1] at hp0
    by_cases h3 : e.kind = 3
    · rw [if_pos h3] at hp0
      obtain ⟨l, hl, hrun⟩ := ev_tick hI hz
      exact play_on hI hd hp0 (by rw [ticks_on]; exact ho) (ticks_err d) hl hrf (fun X hX => by rw [h3]; exact outcome_3 hX e.n e.text e.cut e.torn hrec _ _ _ _ _ _ _ l (fun X2 hX2 => hrun X2 b t hX2))
    rw [if_neg h3] at hp0
    by_cases h4 : e.kind = 4
    · rw [if_pos h4] at hp0
      obtain ⟨l, hl, hrun⟩ := ev_infer hI e.text ht
      refine play_on hI hd hp0 ho (fun h => ⟨?_, rfl⟩) hl hrf (fun X hX => by rw [h4]; exact outcome_4 hX e.n e.text e.cut e.torn hrec _ _ _ _ _ _ _ l (fun X2 hX2 => hrun X2 b t hX2))
      refine eval_no fun h0 => h ?_
      show (evalNum (M.imgOf d.F (M.servedD d.F)) e.text).toNat = 0
      rw [h0]
      rfl
    rw [if_neg h4] at hp0
    by_cases h5 : e.kind = 5
    · rw [if_pos h5] at hp0
      obtain ⟨l, hl, hrun⟩ := ev_offer hI hz hk e.text ht
      exact play_on hI hd hp0 (by rw [(offers_on d e.text).1]; exact ho) (fun _ => (offers_on d e.text).2) hl hrf (fun X hX => by rw [h5]; exact outcome_5 hX e.n e.text e.cut e.torn hrec _ _ _ _ _ _ _ l (fun X2 hX2 => hrun X2 b t hX2))
    rw [if_neg h5] at hp0
    by_cases h6 : e.kind = 6
    · rw [if_pos h6] at hp0
      obtain ⟨l, hl, hrun⟩ := ev_chunk hI e.n e.text ht
      exact play_on hI hd hp0 (by rw [(takes_on d e.n e.text).1]; exact ho) (fun _ => (takes_on d e.n e.text).2) hl hrf (fun X hX => by rw [h6]; exact outcome_6 hX e.n e.text e.cut e.torn hrec _ _ _ _ _ _ _ l (fun X2 hX2 => hrun X2 b t hX2))
    rw [if_neg h6] at hp0
    have h7 : e.kind = 7 := by omega
    obtain ⟨l, hl, hrun⟩ := ev_confirm hI
    exact play_on hI hd hp0 (by rw [(confirms_on d).1]; exact ho) (fun _ => (confirms_on d).2) hl hrf (fun X hX => by rw [h7]; exact outcome_7 hX e.n e.text e.cut e.torn hrec _ _ _ _ _ _ _ l (fun X2 hX2 => hrun X2 b t hX2))
  · have hof : d.on = false := by
      cases h : d.on
      · rfl
      · exact absurd h ho
    by_cases hk2 : e.kind = 2
    · have hp : M.planned d e = M.boots d := by
        unfold M.planned
        rw [if_neg hkd, if_neg (fun h => ho h.2), if_neg (fun h => h.1 hk2), if_neg (by omega), if_pos hk2]
      obtain ⟨l, hl, hrun⟩ := ev_boot hI
      refine play_on hI hd hp rfl (fun h => absurd rfl h) hl (fun X hX => ?_) (fun X hX => by rw [hk2]; exact outcome_2 hX e.n e.text e.cut e.torn (fun X2 hX2 => devRecord_any hX2 hF) _ _ _ _ _ _ _ l (fun X2 _ => hrun X2))
      rw [hk2]
      rw [hof] at hX
      exact refuse_no_off hX
    · have hp : M.planned d e = M.fails d 8 := by
        unfold M.planned
        rw [if_neg hkd, if_neg (fun h => hk2 h.1), if_pos ⟨hk2, hof⟩]
      rw [hof] at hd
      refine (rawDo_refused hd e.kind e.n e.text e.cut e.torn 8 (by decide) (fun X hX => refuse_off hX e.kind (by omega) (by omega) hk2)).mono ?_
      rintro y w' ⟨hy, hb⟩
      exact played_fails (by decide) hp hrel hy hb
end
end Go.Proofs.YtjfmiomopfjecabGreat

/- The document's device: an event. -/
namespace Go.Proofs.YtjfmiomopfjecabGreat
open Go.RowKit Go.Lib

theorem drew_cell {X : World} {a : Addr} {u : Value} (h : X.cell? a = some u) : X.drew.cell? a = some u := h
theorem txtC_at {l : List GW} {i : Nat} (h : i < l.length) : (txtC l)[i]? = some (.string (l[i]).2) := by unfold txtC; simp [h]
theorem atsC_at {l : List GW} {i : Nat} (h : i < l.length) : (intCells (atsL l))[i]? = some (.int .i64 (l[i]).1) := by unfold intCells atsL; simp [h]
/-- what a plan's rows hold -/
theorem PlanAt.rows {X : World} {q : Nat} {l : List GW} {err ver : Int} {text : ByteArray} {ask wait next age : Int} {on : Bool} (h : PlanAt X q l err ver text ask wait next age on) :
    ∃ (ao : Option Addr) (ca : Nat) (to : Option Addr) (ct : Nat), X.heap[q]? = some (.cells (plC (.slice ao l.length ca) (.slice to l.length ct) err ver text ask wait next age on) 149 (0, 0)) ∧
      (0 < l.length → ∃ ga gt, ao = some ⟨ga, 0, none⟩ ∧ to = some ⟨gt, 0, none⟩ ∧ q < ga ∧ q < gt ∧ ga < X.heap.size ∧ gt < X.heap.size ∧ (∀ i (hi : i < l.length), X.cell? ⟨ga, i, none⟩ = some (.int .i64 (l[i]).1)) ∧ ∀ i (hi : i < l.length), X.cell? ⟨gt, i, none⟩ = some (.string (l[i]).2)) := by
  obtain ⟨ao, ca, to, ct, hq, h1, h2⟩ := h.body
  refine ⟨ao, ca, to, ct, hq, fun hp => ?_⟩
  obtain ⟨ao1, ca1, e1, -, -, k1⟩ := (holdsRow_own h1).shape
  obtain ⟨to1, ct1, e2, -, -, k2⟩ := (holdsRow_own h2).shape
  injection e1 with e1 _ _
  injection e2 with e2 _ _
  subst e1 e2
  obtain ⟨ga, rfl, hga, ca'⟩ := k1 hp
  obtain ⟨gt, rfl, hgt, ct'⟩ := k2 hp
  have l1 := (h1.lt ga rfl).1
  have l2 := (h2.lt gt rfl).1
  exact ⟨ga, gt, rfl, rfl, by omega, by omega, hga, hgt, fun i hi => ca' i _ (atsC_at hi), fun i hi => ct' i _ (txtC_at hi)⟩
theorem gws_take {F : Nat → Nat} {l : List GW} {k : Nat} (h : k < l.length) : M.puts F ((gwsOf l).take (k + 1)) = M.put (M.puts F ((gwsOf l).take k)) (l[k]).1 (M.bz (l[k]).2) 16 := by
  have hk : k < (gwsOf l).length := by rw [gwsOf_length]; exact h
  rw [puts_take hk]
  have e : (gwsOf l)[k] = gwOf l[k] := List.getElem_map _
  rw [e]
  rfl
section
variable {X : World} {g : Nat} {d : M.Dev}
theorem RefAt.setOn (h : RefAt X g d) (x : Bool) : RefAt (X.setCell ⟨g, 2, none⟩ (.bool x)) g { d with on := x } := (setCell_in h 2 _).trans rfl
theorem RefAt.setRest (h : RefAt X g d) (on : Bool) (wt nx ag : Nat) : RefAt ((((X.setCell ⟨g, 2, none⟩ (.bool on)).setCell ⟨g, 3, none⟩ (.int .i64 wt)).setCell ⟨g, 4, none⟩ (.int .i64 nx)).setCell ⟨g, 5, none⟩ (.int .i64 ag)) g ⟨d.key, d.F, on, wt, nx, ag⟩ := by
  have h2 := (setCell_in h 2 (.bool on)).trans rfl
  have h3 := (setCell_in h2 3 (.int .i64 wt)).trans rfl
  have h4 := (setCell_in h3 4 (.int .i64 nx)).trans rfl
  exact (setCell_in h4 5 (.int .i64 ag)).trans rfl
/-- a device whose flash is another one -/
abbrev withF (d : M.Dev) (F : Nat → Nat) : M.Dev := { d with F := F }
set_option maxRecDepth 10000 in
set_option maxHeartbeats 4000000 in
theorem refDo_cut (hR : RefAt X g d) (hF : ∀ j, d.F j < 256) (kd n : Int) (tx : ByteArray) (m : Nat) (torn : Int) (l : List GW) (hl : ∀ y ∈ l, y.1 < 23 ∧ y.2.size = 16) (hl30 : l.length ≤ 30) (er : Nat) (txt : ByteArray) (ask : Int) (wt nx ag : Nat) (on' : Bool) (hml : m < l.length)
    (hpl : ∀ Y : World, RefAt Y g d → Calls Tryz.prog 89 #[.pointer (some ⟨g, 0, none⟩), .agg #[.int .i64 kd, .int .i64 n, .string tx, .int .i64 (m : Nat), .int .i64 torn]] Y fun y w' => ∃ q, y = .returned (.pointer (some ⟨q, 0, none⟩)) ∧ Y.heap.size ≤ q ∧ PlanAt w' q l er 0 txt ask wt nx ag on' ∧ Below Y.heap.size Y w') :
    Calls Tryz.prog 65 #[.pointer (some ⟨g, 0, none⟩), .agg #[.int .i64 kd, .int .i64 n, .string tx, .int .i64 (m : Nat), .int .i64 torn]] X fun y w' => y = .returned (.agg #[.int .i64 10, .int .i64 0, .string ⟨#[]⟩, .int .i64 (-1)]) ∧ RefAt w' g { d with F := M.put (M.puts d.F ((gwsOf l).take m)) (l[m]).1 (M.bz (l[m]).2) (M.tornN torn), on := false } ∧ Only (· = g) X w' := by
  have HPL := hide hpl
  have HRF := hide hR
  have HL := hide hl
  have HF := hide hF
  have hgl := hR.lt
  clear hpl hR hl hF
  go_enter Tryz.func65, Tryz.ntmps65
  go_wp2_with fail
  with_reducible refine (unhide HPL _ ((unhide HRF).kept (by repeat (first | with_reducible exact Below.refl _ _ | (with_reducible refine balloc ?_ ?_; (focus (first | omega | (simp; done) | (simp; omega)))))))).mono ?_
  rintro y w1 ⟨q, rfl, hq, hP, hb1⟩
  obtain ⟨kE, kR, hs1, hbX⟩ := blk2 hb1
  have HR1 := hide ((unhide HRF).kept hbX)
  have HBX := hide hbX
  have KE := hide kE
  have KR := hide kR
  simp at hq
  obtain ⟨ao, ca, to, ct, kQ, hrows⟩ := hP.rows
  have KQ := hide kQ
  have HROW := hide hrows
  obtain ⟨hxE, hfE⟩ := block_facts kE
  obtain ⟨hxQ, hfQ⟩ := block_facts kQ
  have lq := hP.ref
  clear hb1 hbX kE kR kQ hP hrows HPL HRF
  have hcI : (m : Int) < (l.length : Int) := by omega
  have hcJ : (0 : Int) ≤ (m : Int) := by omega
  go_wp2_with fail
  go_loopw [7] (fun i wr => ∃ k : Nat, k ≤ m ∧ i = .int .i64 k ∧ RefAt wr g (withF d (M.puts d.F ((gwsOf l).take k))) ∧ Only (· = g) w1 wr) (fun i _ => m - (intOf i).toNat)
  case atStart => exact ⟨0, by omega, rfl, unhide HR1, Only.refl _ _⟩
  case round =>
    clear HR1 hxE hfE hxQ hfQ
    obtain ⟨k, hk, rfl, hr2, ho2⟩ := hrel
    have HR2 := hide hr2
    have HO2 := hide ho2
    have kQ2 := (ho2.block q lq (by omega)).trans (unhide KQ)
    have kE2 := (ho2.block X.heap.size (by omega) (by omega)).trans (unhide KE)
    have KQ2 := hide kQ2
    have KE2 := hide kE2
    have hs2 := ho2.size
    have HFk : Hid (∀ j, M.puts d.F ((gwsOf l).take k) j < 256) := M.puts_bytes (unhide HF) (fun x hx i _ => by
      have hx2 := List.mem_of_mem_take hx
      unfold gwsOf at hx2
      obtain ⟨y, _, rfl⟩ := List.mem_map.1 hx2
      exact M.bz_lt _ _)
    have rule1 : ∀ (Y : World) (o : Nat), Y.heap[q]? = some (.cells (plC (.slice ao l.length ca) (.slice to l.length ct) er 0 txt ask wt nx ag on') 149 (0, 0)) → Y.cell? ⟨q, o, none⟩ = (plC (.slice ao l.length ca) (.slice to l.length ct) er 0 txt ask wt nx ag on')[o]? := fun Y o hh => cell_in hh o
    by_cases hlt : k < m
    · have hkl : k < l.length := by omega
      obtain ⟨ga, gt, rfl, rfl, hqa, hqt, hga, hgt, hca, hct⟩ := unhide HROW (by omega)
      have cA := (ho2.cell (a := ⟨ga, k, none⟩) hga (by show ¬ ga = g; omega)).trans (hca k hkl)
      have cT := (ho2.cell (a := ⟨gt, k, none⟩) hgt (by show ¬ gt = g; omega)).trans (hct k hkl)
      have hok := unhide HL l[k] (List.getElem_mem hkl)
      have HIN : Hid (∀ Y : World, RefAt Y g (withF d (M.puts d.F ((gwsOf l).take k))) → Calls Tryz.prog 90 #[.pointer (some ⟨g, 0, none⟩), .int .i64 (l[k]).1, .string (l[k]).2, .int .i64 16] Y fun e w' => e = .returned (.tuple #[]) ∧ RefAt w' g (withF d (M.puts d.F ((gwsOf l).take (k + 1)))) ∧ Only (· = g) Y w') := by
        intro Y hY
        have := refInto_any hY (unhide HFk) (l[k]).1 (l[k]).1 16 (l[k]).2 hok.1 hok.2 rfl
        rw [show M.tornN 16 = 16 from rfl] at this
        rw [gws_take hkl]
        exact this
      have CA := hide cA
      have CT := hide cT
      clear hr2 ho2 kQ2 kE2 hca hct hok cA cT HROW
      generalize (l[k]).1 = pk at *
      generalize (l[k]).2 = tk at *
      have i0 : (0 : Int) ≤ (k : Int) := by omega
      have i1 : (k : Int) < (l.length : Int) := by omega
      have m1 : q < wr.heap.size := by omega
      have m2 : ga < wr.heap.size := by omega
      have m3 : gt < wr.heap.size := by omega
      have m4 : ¬ q = g := by omega
      have m5 : ¬ ga = g := by omega
      have m6 : ¬ gt = g := by omega
      go_wp2_with fail
      go_region_held3 (fun Y => Y.heap[q]? = some (.cells (plC (.slice (some ⟨ga, 0, none⟩) l.length ca) (.slice (some ⟨gt, 0, none⟩) l.length ct) er 0 txt ask wt nx ag on') 149 (0, 0)) ∧ Y.cell? ⟨ga, k, none⟩ = some (.int .i64 pk) ∧ Y.cell? ⟨gt, k, none⟩ = some (.string tk)) (first | exact ⟨drew_block (unhide KQ2), unhide CA, unhide CT⟩ | exact ⟨unhide KQ2, unhide CA, unhide CT⟩ | exact ⟨hC1, hC2, hC3⟩) ((go_at_call 90; (with_reducible refine (unhide HIN _ ((unhide HR2).kept (Below.refl _ _).drew)).mono ?_); rintro y w3 ⟨rfl, hr3, ho3⟩; have hC1 : w3.heap[q]? = some (.cells (plC (.slice (some ⟨ga, 0, none⟩) l.length ca) (.slice (some ⟨gt, 0, none⟩) l.length ct) er 0 txt ask wt nx ag on') 149 (0, 0)) := Eq.trans (ho3.block q m1 m4) (unhide KQ2); have hC2 : w3.cell? ⟨ga, k, none⟩ = some (.int .i64 pk) := Eq.trans (ho3.cell (a := ⟨ga, k, none⟩) m2 m5) (drew_cell (unhide CA)); have hC3 : w3.cell? ⟨gt, k, none⟩ = some (.string tk) := Eq.trans (ho3.cell (a := ⟨gt, k, none⟩) m3 m6) (drew_cell (unhide CT))))
      all_goals
        have HR3 := hide hr3
        have HO3 : Hid (Only (· = g) w1 w3) := (unhide HO2).trans ((Only.of (p := (· = g)) (Below.refl wr.heap.size wr).drew).trans ho3)
        clear hr3 ho3 hC1 hC2 hC3 rule1
        go_wp2
        go_roundw
        case rel => exact ⟨k + 1, by omega, by go_num, unhide HR3, unhide HO3⟩
        case measure => simp [intOf]; omega
    · have hkm : k = m := by omega
      subst hkm
      obtain ⟨ga, gt, rfl, rfl, hqa, hqt, hga, hgt, hca, hct⟩ := unhide HROW (by omega)
      have cA := (ho2.cell (a := ⟨ga, k, none⟩) hga (by show ¬ ga = g; omega)).trans (hca k hml)
      have cT := (ho2.cell (a := ⟨gt, k, none⟩) hgt (by show ¬ gt = g; omega)).trans (hct k hml)
      have hok := unhide HL l[k] (List.getElem_mem hml)
      have HIN : Hid (∀ Y : World, RefAt Y g (withF d (M.puts d.F ((gwsOf l).take k))) → Calls Tryz.prog 90 #[.pointer (some ⟨g, 0, none⟩), .int .i64 (l[k]).1, .string (l[k]).2, .int .i64 torn] Y fun e w' => e = .returned (.tuple #[]) ∧ RefAt w' g (withF d (M.put (M.puts d.F ((gwsOf l).take k)) (l[k]).1 (M.bz (l[k]).2) (M.tornN torn))) ∧ Only (· = g) Y w') := fun Y hY => refInto_any hY (unhide HFk) (l[k]).1 (l[k]).1 torn (l[k]).2 hok.1 hok.2 rfl
      have CA := hide cA
      have CT := hide cT
      have kR2 := (ho2.block (X.heap.size + 1) (by omega) (by omega)).trans (unhide KR)
      have KR2 := hide kR2
      clear hr2 ho2 kQ2 kE2 kR2 hca hct hok cA cT HROW
      generalize hFF : M.put (M.puts d.F ((gwsOf l).take k)) (l[k]).1 (M.bz (l[k]).2) (M.tornN torn) = FF at *
      generalize hpk : (l[k]).1 = pk at *
      generalize htk : (l[k]).2 = tk at *
      have HFF := hide hFF
      have HPK := hide hpk
      have HTK := hide htk
      clear hFF hpk htk
      have i0 : (0 : Int) ≤ (k : Int) := by omega
      have i1 : (k : Int) < (l.length : Int) := by omega
      have m1 : q < wr.heap.size := by omega
      have m2 : ga < wr.heap.size := by omega
      have m3 : gt < wr.heap.size := by omega
      have m4 : ¬ q = g := by omega
      have m5 : ¬ ga = g := by omega
      have m6 : ¬ gt = g := by omega
      have m7 : X.heap.size < wr.heap.size := by omega
      have m8 : ¬ X.heap.size = g := by omega
      have rule2 : ∀ (Y : World) (o : Nat), Y.heap[X.heap.size]? = some (.cells #[.int .i64 kd, .int .i64 n, .string tx, .int .i64 (k : Nat), .int .i64 torn] 86 (0, 0)) → Y.cell? ⟨X.heap.size, o, none⟩ = (#[.int .i64 kd, .int .i64 n, .string tx, .int .i64 (k : Nat), .int .i64 torn] : Array Value)[o]? := fun Y o hh => cell_in hh o
      obtain ⟨hxQ, hfQ⟩ := block_facts (unhide KQ2)
      go_wp2_with fail
      go_region_held3 (fun Y => Y.heap[q]? = some (.cells (plC (.slice (some ⟨ga, 0, none⟩) l.length ca) (.slice (some ⟨gt, 0, none⟩) l.length ct) er 0 txt ask wt nx ag on') 149 (0, 0)) ∧ Y.cell? ⟨ga, k, none⟩ = some (.int .i64 pk) ∧ Y.cell? ⟨gt, k, none⟩ = some (.string tk) ∧ Y.heap[X.heap.size]? = some (.cells #[.int .i64 kd, .int .i64 n, .string tx, .int .i64 (k : Nat), .int .i64 torn] 86 (0, 0))) (first | exact ⟨drew_block (unhide KQ2), unhide CA, unhide CT, drew_block (unhide KE2)⟩ | exact ⟨hC1, hC2, hC3, hC4⟩) ((go_at_call 90; (with_reducible refine (unhide HIN _ ((unhide HR2).kept (Below.refl _ _).drew)).mono ?_); rintro y w3 ⟨rfl, hr3, ho3⟩; have hC1 : w3.heap[q]? = some (.cells (plC (.slice (some ⟨ga, 0, none⟩) l.length ca) (.slice (some ⟨gt, 0, none⟩) l.length ct) er 0 txt ask wt nx ag on') 149 (0, 0)) := Eq.trans (ho3.block q m1 m4) (unhide KQ2); have hC2 : w3.cell? ⟨ga, k, none⟩ = some (.int .i64 pk) := Eq.trans (ho3.cell (a := ⟨ga, k, none⟩) m2 m5) (drew_cell (unhide CA)); have hC3 : w3.cell? ⟨gt, k, none⟩ = some (.string tk) := Eq.trans (ho3.cell (a := ⟨gt, k, none⟩) m3 m6) (drew_cell (unhide CT)); have hC4 : w3.heap[X.heap.size]? = some (.cells #[.int .i64 kd, .int .i64 n, .string tx, .int .i64 (k : Nat), .int .i64 torn] 86 (0, 0)) := Eq.trans (ho3.block X.heap.size m7 m8) (unhide KE2)))
      all_goals
        have hR3 : w3.heap[X.heap.size + 1]? = some (.cells #[.int .i64 0, .int .i64 0, .string ⟨#[]⟩, .int .i64 0] 115 (0, 0)) := Eq.trans (ho3.block (X.heap.size + 1) (by show X.heap.size + 1 < wr.heap.size; omega) (by omega)) (unhide KR2)
        obtain ⟨hxR, hfR⟩ := block_facts hR3
        have hlR := (Array.getElem?_eq_some_iff.1 hR3).1
        have hx3 := hr3.onC
        have hf3 := hr3.free
        have hl3 := hr3.lt
        have n1 : ¬ g = X.heap.size + 1 := by omega
        have n2 : ¬ X.heap.size + 1 = g := by omega
        have HOX : Hid (Only (· = g) X w3) := (Only.of (unhide HBX)).trans ((unhide HO2).trans ((Only.of (p := (· = g)) (Below.refl wr.heap.size wr).drew).trans ho3))
        have HR3 := hide hr3
        clear hr3 ho3 hC1 hC2 hC3 hC4 rule1 rule2 hR3
        go_wp2
        refine bodyPost_ret (v := .agg #[.int .i64 10, .int .i64 0, .string ⟨#[]⟩, .int .i64 (-1)]) (by simp [results, Tryz.results65, go_sem, *]) rfl ⟨rfl, ?_, ?_⟩
        · rw [HPK.out, HTK.out, HFF.out]
          repeat (first | with_reducible exact RefAt.setOn (unhide HR3) false | with_reducible refine RefAt.set ?_ n1)
        · have HOL := HOX
          repeat (first | with_reducible exact unhide HOL | with_reducible refine ol_drew ?_ | with_reducible refine ol_dev ?_ | (with_reducible refine ol_set ?_ ?_; (focus (first | omega | (simp; done) | (simp; omega)))) | with_reducible refine ol_alloc ?_ | with_reducible refine ol_via (unhide HB6) ?_ | with_reducible refine ol_via (unhide HB7) ?_)
end
end Go.Proofs.YtjfmiomopfjecabGreat

/- The document's device: an event. -/
namespace Go.Proofs.YtjfmiomopfjecabGreat
open Go.RowKit Go.Lib

section
variable {X : World} {g : Nat} {d : M.Dev}
set_option maxRecDepth 10000 in
set_option maxHeartbeats 4000000 in
theorem refDo_whole (hR : RefAt X g d) (hF : ∀ j, d.F j < 256) (kd n : Int) (tx : ByteArray) (cut torn : Int) (l : List GW) (hl : ∀ y ∈ l, y.1 < 23 ∧ y.2.size = 16) (hl30 : l.length ≤ 30) (er : Nat) (txt : ByteArray) (ask : Int) (wt nx ag : Nat) (on' : Bool) (hc : ¬ (0 ≤ cut ∧ cut < (l.length : Int))) (hk1 : er = 0 → on' = true → M.fld (M.puts d.F (gwsOf l)) 1 ≤ 1)
    (hpl : ∀ Y : World, RefAt Y g d → Calls Tryz.prog 89 #[.pointer (some ⟨g, 0, none⟩), .agg #[.int .i64 kd, .int .i64 n, .string tx, .int .i64 cut, .int .i64 torn]] Y fun y w' => ∃ q, y = .returned (.pointer (some ⟨q, 0, none⟩)) ∧ Y.heap.size ≤ q ∧ PlanAt w' q l er 0 txt ask wt nx ag on' ∧ Below Y.heap.size Y w') :
    Calls Tryz.prog 65 #[.pointer (some ⟨g, 0, none⟩), .agg #[.int .i64 kd, .int .i64 n, .string tx, .int .i64 cut, .int .i64 torn]] X fun y w' => y = .returned (.agg #[.int .i64 er, .int .i64 (if er = 0 ∧ on' = true then M.verOf (M.puts d.F (gwsOf l)) (M.servedD (M.puts d.F (gwsOf l))) else 0 : Nat), .string txt, .int .i64 ask]) ∧ RefAt w' g ⟨d.key, M.puts d.F (gwsOf l), on', wt, nx, ag⟩ ∧ Only (· = g) X w' := by
  have HPL := hide hpl
  have HRF := hide hR
  have HL := hide hl
  have HF := hide hF
  have hgl := hR.lt
  clear hpl hR hl hF
  go_enter Tryz.func65, Tryz.ntmps65
  go_wp2_with fail
  with_reducible refine (unhide HPL _ ((unhide HRF).kept (by repeat (first | with_reducible exact Below.refl _ _ | (with_reducible refine balloc ?_ ?_; (focus (first | omega | (simp; done) | (simp; omega)))))))).mono ?_
  rintro y w1 ⟨q, rfl, hq, hP, hb1⟩
  obtain ⟨kE, kR, hs1, hbX⟩ := blk2 hb1
  have HR1 := hide ((unhide HRF).kept hbX)
  have HBX := hide hbX
  have KE := hide kE
  have KR := hide kR
  simp at hq
  obtain ⟨ao, ca, to, ct, kQ, hrows⟩ := hP.rows
  have KQ := hide kQ
  have HROW := hide hrows
  obtain ⟨hxE, hfE⟩ := block_facts kE
  obtain ⟨hxQ, hfQ⟩ := block_facts kQ
  have lq := hP.ref
  clear hb1 hbX kE kR kQ hP hrows HPL HRF
  have hcc : (¬ 0 ≤ cut) ∨ (0 ≤ cut ∧ ¬ cut < (l.length : Int)) := by omega
  clear hc
  rcases hcc with hc0 | ⟨hc0, hc1⟩
  all_goals
    go_wp2_with fail
    go_loopw [7] (fun i wr => ∃ k : Nat, k ≤ l.length ∧ i = .int .i64 k ∧ RefAt wr g (withF d (M.puts d.F ((gwsOf l).take k))) ∧ Only (· = g) w1 wr) (fun i _ => l.length - (intOf i).toNat)
    case atStart => exact ⟨0, by omega, rfl, unhide HR1, Only.refl _ _⟩
    case round =>
      clear HR1 hxE hfE hxQ hfQ
      obtain ⟨k, hk, rfl, hr2, ho2⟩ := hrel
      have HR2 := hide hr2
      have HO2 := hide ho2
      have kQ2 := (ho2.block q lq (by omega)).trans (unhide KQ)
      have kE2 := (ho2.block X.heap.size (by omega) (by omega)).trans (unhide KE)
      have KQ2 := hide kQ2
      have KE2 := hide kE2
      have hs2 := ho2.size
      have HFk : Hid (∀ j, M.puts d.F ((gwsOf l).take k) j < 256) := M.puts_bytes (unhide HF) (fun x hx i _ => by
        have hx2 := List.mem_of_mem_take hx
        unfold gwsOf at hx2
        obtain ⟨y, _, rfl⟩ := List.mem_map.1 hx2
        exact M.bz_lt _ _)
      have rule1 : ∀ (Y : World) (o : Nat), Y.heap[q]? = some (.cells (plC (.slice ao l.length ca) (.slice to l.length ct) er 0 txt ask wt nx ag on') 149 (0, 0)) → Y.cell? ⟨q, o, none⟩ = (plC (.slice ao l.length ca) (.slice to l.length ct) er 0 txt ask wt nx ag on')[o]? := fun Y o hh => cell_in hh o
      by_cases hlt : k < l.length
      · have hkl : k < l.length := by omega
        obtain ⟨ga, gt, rfl, rfl, hqa, hqt, hga, hgt, hca, hct⟩ := unhide HROW (by omega)
        have cA := (ho2.cell (a := ⟨ga, k, none⟩) hga (by show ¬ ga = g; omega)).trans (hca k hkl)
        have cT := (ho2.cell (a := ⟨gt, k, none⟩) hgt (by show ¬ gt = g; omega)).trans (hct k hkl)
        have hok := unhide HL l[k] (List.getElem_mem hkl)
        have HIN : Hid (∀ Y : World, RefAt Y g (withF d (M.puts d.F ((gwsOf l).take k))) → Calls Tryz.prog 90 #[.pointer (some ⟨g, 0, none⟩), .int .i64 (l[k]).1, .string (l[k]).2, .int .i64 16] Y fun e w' => e = .returned (.tuple #[]) ∧ RefAt w' g (withF d (M.puts d.F ((gwsOf l).take (k + 1)))) ∧ Only (· = g) Y w') := by
          intro Y hY
          have := refInto_any hY (unhide HFk) (l[k]).1 (l[k]).1 16 (l[k]).2 hok.1 hok.2 rfl
          rw [show M.tornN 16 = 16 from rfl] at this
          rw [gws_take hkl]
          exact this
        have CA := hide cA
        have CT := hide cT
        clear hr2 ho2 kQ2 kE2 hca hct hok cA cT HROW
        generalize (l[k]).1 = pk at *
        generalize (l[k]).2 = tk at *
        have i0 : (0 : Int) ≤ (k : Int) := by omega
        have i1 : (k : Int) < (l.length : Int) := by omega
        have m1 : q < wr.heap.size := by omega
        have m2 : ga < wr.heap.size := by omega
        have m3 : gt < wr.heap.size := by omega
        have m4 : ¬ q = g := by omega
        have m5 : ¬ ga = g := by omega
        have m6 : ¬ gt = g := by omega
        go_wp2_with fail
        go_region_held3 (fun Y => Y.heap[q]? = some (.cells (plC (.slice (some ⟨ga, 0, none⟩) l.length ca) (.slice (some ⟨gt, 0, none⟩) l.length ct) er 0 txt ask wt nx ag on') 149 (0, 0)) ∧ Y.cell? ⟨ga, k, none⟩ = some (.int .i64 pk) ∧ Y.cell? ⟨gt, k, none⟩ = some (.string tk)) (first | exact ⟨drew_block (unhide KQ2), unhide CA, unhide CT⟩ | exact ⟨unhide KQ2, unhide CA, unhide CT⟩ | exact ⟨hC1, hC2, hC3⟩) ((go_at_call 90; (with_reducible refine (unhide HIN _ ((unhide HR2).kept (Below.refl _ _).drew)).mono ?_); rintro y w3 ⟨rfl, hr3, ho3⟩; have hC1 : w3.heap[q]? = some (.cells (plC (.slice (some ⟨ga, 0, none⟩) l.length ca) (.slice (some ⟨gt, 0, none⟩) l.length ct) er 0 txt ask wt nx ag on') 149 (0, 0)) := Eq.trans (ho3.block q m1 m4) (unhide KQ2); have hC2 : w3.cell? ⟨ga, k, none⟩ = some (.int .i64 pk) := Eq.trans (ho3.cell (a := ⟨ga, k, none⟩) m2 m5) (drew_cell (unhide CA)); have hC3 : w3.cell? ⟨gt, k, none⟩ = some (.string tk) := Eq.trans (ho3.cell (a := ⟨gt, k, none⟩) m3 m6) (drew_cell (unhide CT))))
        all_goals
          have HR3 := hide hr3
          have HO3 : Hid (Only (· = g) w1 w3) := (unhide HO2).trans ((Only.of (p := (· = g)) (Below.refl wr.heap.size wr).drew).trans ho3)
          clear hr3 ho3 hC1 hC2 hC3 rule1
          go_wp2
          go_roundw
          case rel => exact ⟨k + 1, by omega, by go_num, unhide HR3, unhide HO3⟩
          case measure => simp [intOf]; omega
      · have hkm : k = l.length := by omega
        subst hkm
        have HTK : Hid ((gwsOf l).take l.length = gwsOf l) := (by show _ = _; rw [← gwsOf_length l]; exact List.take_length)
        rw [HTK.out] at HR2 HFk
        have kR2 := (ho2.block (X.heap.size + 1) (by omega) (by omega)).trans (unhide KR)
        have KR2 := hide kR2
        have hx2 := hr2.onC
        have hx3 := hr2.waitC
        have hx4 := hr2.nextC
        have hx5 := hr2.ageC
        have hf2 := hr2.free
        have hl2 := hr2.lt
        have n1 : ¬ g = X.heap.size + 1 := by omega
        have n2 : ¬ X.heap.size + 1 = g := by omega
        have m4 : ¬ q = g := by omega
        have m4' : ¬ g = q := by omega
        have m5 : ¬ q = X.heap.size + 1 := by omega
        have m6 : ¬ X.heap.size + 1 = q := by omega
        have hqX : X.heap.size ≤ q := by omega
        clear hr2 ho2 kQ2 kE2 kR2 HROW rule1
        generalize hF2 : M.puts d.F (gwsOf l) = F2 at *
        have HF2 := hide hF2
        clear hF2
        dsimp only at hx2 hx3 hx4 hx5
        by_cases h0 : er = 0
        · subst h0
          cases hon : on' with
          | true =>
            subst hon
            have hkk := hk1 rfl rfl
            have hsv : M.servedD F2 ≤ 1 := by unfold M.servedD; split <;> omega
            have HSV := hide (fun (Y : World) (hY : RefAt Y g ⟨d.key, F2, true, wt, nx, ag⟩) => refServed_any hY (unhide HFk) hkk)
            have HVE := hide (fun (Y : World) (hY : RefAt Y g ⟨d.key, F2, true, wt, nx, ag⟩) => refVersion_any hY (unhide HFk) (M.servedD F2) hsv)
            have HVV : Hid ((if (0 : Nat) = 0 ∧ true = true then M.verOf F2 (M.servedD F2) else 0) = M.verOf F2 (M.servedD F2)) := if_pos ⟨rfl, rfl⟩
            obtain ⟨hxQ, hfQ⟩ := block_facts (unhide KQ2)
            obtain ⟨hxR, hfR⟩ := block_facts (unhide KR2)
            have lR := (Array.getElem?_eq_some_iff.1 (unhide KR2)).1
            have lq2 := (Array.getElem?_eq_some_iff.1 (unhide KQ2)).1
            go_wp2_with fail
            have HR5 := hide (RefAt.setRest (unhide HR2) true wt nx ag)
            with_reducible refine (unhide HSV _ (unhide HR5)).mono ?_
            rintro e _ ⟨rfl, rfl⟩
            go_wp2_with fail
            with_reducible refine (unhide HVE _ (unhide HR5)).mono ?_
            rintro e _ ⟨rfl, rfl⟩
            go_wp2
            refine bodyPost_ret (v := .agg #[.int .i64 0, .int .i64 (M.verOf F2 (M.servedD F2)), .string txt, .int .i64 ask]) (by simp [results, Tryz.results65, go_sem, *]) rfl ⟨?_, ?_, ?_⟩
            · first | rfl | (rw [HF2.out]; done) | (rw [HF2.out]; rfl)
            · rw [HF2.out]
              repeat (first | with_reducible exact RefAt.setRest (unhide HR2) true wt nx ag | with_reducible refine RefAt.set ?_ n1 | with_reducible refine RefAt.set ?_ m4')
            · have HOL : Hid (Only (· = g) X wr) := (Only.of (unhide HBX)).trans (unhide HO2)
              repeat (first | with_reducible exact unhide HOL | with_reducible refine ol_drew ?_ | with_reducible refine ol_dev ?_ | (with_reducible refine ol_set ?_ ?_; (focus (first | omega | (simp; done) | (simp; omega)))) | with_reducible refine ol_alloc ?_ | with_reducible refine ol_via (unhide HB6) ?_ | with_reducible refine ol_via (unhide HB7) ?_)
          | false =>
            subst hon
            have HVV : Hid ((if (0 : Nat) = 0 ∧ false = true then M.verOf F2 (M.servedD F2) else 0) = 0) := if_neg (by simp)
            obtain ⟨hxQ, hfQ⟩ := block_facts (unhide KQ2)
            obtain ⟨hxR, hfR⟩ := block_facts (unhide KR2)
            have lR := (Array.getElem?_eq_some_iff.1 (unhide KR2)).1
            have lq2 := (Array.getElem?_eq_some_iff.1 (unhide KQ2)).1
            go_wp2
            refine bodyPost_ret (v := .agg #[.int .i64 0, .int .i64 0, .string txt, .int .i64 ask]) (by simp [results, Tryz.results65, go_sem, *]) rfl ⟨?_, ?_, ?_⟩
            · first | rfl | (rw [HF2.out]; done) | (rw [HF2.out]; rfl)
            · rw [HF2.out]
              repeat (first | with_reducible exact RefAt.setRest (unhide HR2) false wt nx ag | with_reducible refine RefAt.set ?_ n1 | with_reducible refine RefAt.set ?_ m4')
            · have HOL : Hid (Only (· = g) X wr) := (Only.of (unhide HBX)).trans (unhide HO2)
              repeat (first | with_reducible exact unhide HOL | with_reducible refine ol_drew ?_ | with_reducible refine ol_dev ?_ | (with_reducible refine ol_set ?_ ?_; (focus (first | omega | (simp; done) | (simp; omega)))) | with_reducible refine ol_alloc ?_ | with_reducible refine ol_via (unhide HB6) ?_ | with_reducible refine ol_via (unhide HB7) ?_)
        · have HVV : Hid ((if er = 0 ∧ on' = true then M.verOf F2 (M.servedD F2) else 0) = 0) := if_neg (fun hh => h0 hh.1)
          have h0' : ¬ (er : Int) = 0 := by omega
          obtain ⟨hxQ, hfQ⟩ := block_facts (unhide KQ2)
          obtain ⟨hxR, hfR⟩ := block_facts (unhide KR2)
          have lR := (Array.getElem?_eq_some_iff.1 (unhide KR2)).1
          have lq2 := (Array.getElem?_eq_some_iff.1 (unhide KQ2)).1
          go_wp2
          refine bodyPost_ret (v := .agg #[.int .i64 er, .int .i64 0, .string txt, .int .i64 ask]) (by simp [results, Tryz.results65, go_sem, *]) rfl ⟨?_, ?_, ?_⟩
          · first | rfl | (rw [HF2.out]; done) | (rw [HF2.out]; rfl)
          · rw [HF2.out]
            repeat (first | with_reducible exact RefAt.setRest (unhide HR2) on' wt nx ag | with_reducible refine RefAt.set ?_ n1 | with_reducible refine RefAt.set ?_ m4')
          · have HOL : Hid (Only (· = g) X wr) := (Only.of (unhide HBX)).trans (unhide HO2)
            repeat (first | with_reducible exact unhide HOL | with_reducible refine ol_drew ?_ | with_reducible refine ol_dev ?_ | (with_reducible refine ol_set ?_ ?_; (focus (first | omega | (simp; done) | (simp; omega)))) | with_reducible refine ol_alloc ?_ | with_reducible refine ol_via (unhide HB6) ?_ | with_reducible refine ol_via (unhide HB7) ?_)
end
end Go.Proofs.YtjfmiomopfjecabGreat

/- The document's device: an event comes to what it should. -/
namespace Go.Proofs.YtjfmiomopfjecabGreat
open Go.RowKit Go.Lib

section
variable {X : World} {g : Nat} {d : M.Dev}
theorem wrG_pages {l : List M.Wr} (h : ∀ x ∈ l, PageOk x) : ∀ y ∈ l.map wrG, y.1 < 23 ∧ y.2.size = 16 := by
  intro y hy
  obtain ⟨x, hx, rfl⟩ := List.mem_map.1 hy
  exact ⟨(h x hx).1, M.mk_size _ _⟩
theorem refDo_any (hI : M.Inv' d) (hkey : d.key.size ≤ 16) (hR : RefAt X g d) (e : M.Ev) (ht : e.text.size ≤ maxLen) (hlen : (M.planned d e).ws.length ≤ 30) :
    Calls Tryz.prog 65 #[.pointer (some ⟨g, 0, none⟩), .agg #[.int .i64 e.kind, .int .i64 e.n, .string e.text, .int .i64 e.cut, .int .i64 e.torn]] X fun y w' => y = .returned (rpV (M.doM d e).2) ∧ RefAt w' g (M.doM d e).1 ∧ Only (· = g) X w' := by
  have hF := hI.2.1.bytes
  have hok := planned_ok hI e
  have hres := wrG_res hok
  have hpg := wrG_pages hok
  have hll : ((M.planned d e).ws.map wrG).length = (M.planned d e).ws.length := by simp
  have hinv := M.inv_do hI e
  have hpl := fun (Y : World) (hY : RefAt Y g d) => refPlanned_any hI hkey hY e ht
  obtain ⟨kd, n, tx, cut, torn⟩ := e
  dsimp only at ht hpl ⊢
  by_cases hc : 0 ≤ cut ∧ cut < ((M.planned d ⟨kd, n, tx, cut, torn⟩).ws.length : Int)
  · have hcuts : M.cuts ⟨kd, n, tx, cut, torn⟩ (M.planned d ⟨kd, n, tx, cut, torn⟩).ws = true := decide_eq_true hc
    have ed : M.doM d ⟨kd, n, tx, cut, torn⟩ = ({ d with F := M.cutAt d.F (M.planned d ⟨kd, n, tx, cut, torn⟩).ws cut.toNat (M.tornN torn), on := false }, ⟨10, 0, ⟨#[]⟩, -1⟩) := by
      unfold M.doM
      rw [if_pos hcuts]
    rw [ed]
    generalize M.planned d ⟨kd, n, tx, cut, torn⟩ = p at *
    obtain ⟨m, rfl⟩ := Int.eq_ofNat_of_zero_le hc.1
    have hm : m < (p.ws.map wrG).length := by rw [hll]; omega
    refine (refDo_cut hR hF kd n tx m torn (p.ws.map wrG) hpg (by rw [hll]; exact hlen) p.err p.text p.ask p.wait p.next p.age p.on hm hpl).mono ?_
    rintro y w' ⟨hy, hr, ho⟩
    refine ⟨hy, ?_, ho⟩
    have hg : m < (gwsOf (p.ws.map wrG)).length := by rw [gwsOf_length]; exact hm
    have e1 : M.cutAt d.F p.ws (m : Int).toNat (M.tornN torn) = M.put (M.puts d.F ((gwsOf (p.ws.map wrG)).take m)) ((p.ws.map wrG)[m]).1 (M.bz ((p.ws.map wrG)[m]).2) (M.tornN torn) := by
      rw [Int.toNat_natCast, ← cut_res hres d.F m (M.tornN_le torn), M.cutAt_in hg]
      have e : (gwsOf (p.ws.map wrG))[m] = gwOf (p.ws.map wrG)[m] := List.getElem_map _
      rw [e]
      rfl
    rw [e1]
    exact hr
  · have hcuts : M.cuts ⟨kd, n, tx, cut, torn⟩ (M.planned d ⟨kd, n, tx, cut, torn⟩).ws = false := decide_eq_false hc
    have ed : M.doM d ⟨kd, n, tx, cut, torn⟩ = (⟨d.key, M.puts d.F (M.planned d ⟨kd, n, tx, cut, torn⟩).ws, (M.planned d ⟨kd, n, tx, cut, torn⟩).on, (M.planned d ⟨kd, n, tx, cut, torn⟩).wait, (M.planned d ⟨kd, n, tx, cut, torn⟩).next, (M.planned d ⟨kd, n, tx, cut, torn⟩).age⟩, ⟨(M.planned d ⟨kd, n, tx, cut, torn⟩).err, if (M.planned d ⟨kd, n, tx, cut, torn⟩).err = 0 ∧ (M.planned d ⟨kd, n, tx, cut, torn⟩).on = true then M.verOf (M.puts d.F (M.planned d ⟨kd, n, tx, cut, torn⟩).ws) (M.servedD (M.puts d.F (M.planned d ⟨kd, n, tx, cut, torn⟩).ws)) else 0, (M.planned d ⟨kd, n, tx, cut, torn⟩).text, (M.planned d ⟨kd, n, tx, cut, torn⟩).ask⟩) := by
      unfold M.doM
      rw [if_neg (by rw [hcuts]; simp)]
    rw [ed] at hinv ⊢
    have hk1 := hinv.2.1.kept
    generalize M.planned d ⟨kd, n, tx, cut, torn⟩ = p at *
    have hp := puts_res hres d.F
    rw [← hp] at hk1 ⊢
    exact refDo_whole hR hF kd n tx cut torn (p.ws.map wrG) hpg (by rw [hll]; exact hlen) p.err p.text p.ask p.wait p.next p.age p.on (by rw [hll]; exact hc) (fun _ _ => hk1) hpl
end
end Go.Proofs.YtjfmiomopfjecabGreat

/- The calls of a device: Do, Status, Page. -/
namespace Go.Proofs.YtjfmiomopfjecabGreat
open Go.RowKit Go.Lib

/-- what a device tells -/
def statOf (d : M.Dev) : Value := if d.on = true then statV d.F (if M.fld d.F 2 = 1 then (M.missing d.F).length else 0) else statNo
section
variable {d : M.Dev} {W : World} {b : Nat} {t : TypeId}
theorem devStatus_any (hI : M.Inv' d) (hrel : DevRel W b t d) :
    Calls Tryz.prog 61 #[.pointer (some ⟨b, 0, none⟩)] W fun e w' => e = .returned (statOf d) ∧ Below W.heap.size W w' := by
  obtain ⟨x, y, z, hd, hm⟩ := hrel
  unfold statOf
  by_cases ho : d.on = true
  · rw [if_pos ho]
    rw [ho] at hd
    exact stat_on hI hd
  · rw [if_neg ho]
    have hof : d.on = false := by
      cases h : d.on
      · rfl
      · exact absurd h ho
    rw [hof] at hd
    exact devStatus_off hd
theorem statOf_shape (d : M.Dev) : ∃ (sb : Bool) (i1 i2 i3 i4 i5 i6 : Int), statOf d = .agg #[.bool sb, .int .i64 i1, .int .i64 i2, .int .i64 i3, .int .i64 i4, .int .i64 i5, .int .i64 i6] := by
  unfold statOf
  split
  · exact ⟨_, _, _, _, _, _, _, rfl⟩
  · exact ⟨_, _, _, _, _, _, _, rfl⟩
set_option maxRecDepth 10000 in
theorem slotsStatus_any (hI : M.Inv' d) (hrel : DevRel W b t d) :
    Calls Tryz.prog 43 #[.pointer (some ⟨b, 0, none⟩)] W fun e w' => e = .returned (statOf d) ∧ Below W.heap.size W w' := by
  have HR := hide hrel
  have HS := hide (fun (X : World) (hX : DevRel X b t d) => devStatus_any hI hX)
  obtain ⟨sb, i1, i2, i3, i4, i5, i6, e⟩ := statOf_shape d
  rw [e] at HS ⊢
  clear hrel hI e
  go_enter Tryz.func43, Tryz.ntmps43
  go_wp2_with fail
  refine (unhide HS _ (DevRel.kept (unhide HR) ((Below.refl _ _).alloc (Nat.le_refl _) _))).mono ?_
  rintro e w1 ⟨rfl, hb1⟩
  obtain ⟨k1, hs1, hb⟩ := blk1 hb1
  obtain ⟨hx1, hf1⟩ := block_facts k1
  have HB := hide hb
  clear hb hb1 k1
  have l1 : W.heap.size < w1.heap.size := (by omega); have n1 : ¬ W.heap.size = w1.heap.size := (by omega)
  go_wp2
  refine bodyPost_ret (v := .agg #[.bool sb, .int .i64 i1, .int .i64 i2, .int .i64 i3, .int .i64 i4, .int .i64 i5, .int .i64 i6]) (by simp [results, Tryz.results43, go_sem, hx1]) rfl ⟨rfl, ?_⟩
  repeat (first | with_reducible exact unhide HB | with_reducible exact Below.refl _ _ | with_reducible refine bdrew ?_ | (with_reducible refine brow ?_ ?_; (focus (first | omega | (simp; done) | (simp; omega)))) | (with_reducible refine bset ?_ ?_; (focus (first | omega | (simp; done) | (simp; omega)))) | (with_reducible refine balloc ?_ ?_; (focus (first | omega | (simp; done) | (simp; omega)))) | (with_reducible refine bvia (unhide HB1) ?_ ?_; (focus (first | omega | (simp; done) | (simp; omega)))) | (with_reducible refine bvia (unhide HB2) ?_ ?_; (focus (first | omega | (simp; done) | (simp; omega)))) | (with_reducible refine bvia (unhide HB3) ?_ ?_; (focus (first | omega | (simp; done) | (simp; omega)))) | (with_reducible refine bvia (unhide HB4) ?_ ?_; (focus (first | omega | (simp; done) | (simp; omega)))) | (with_reducible refine bvia (unhide HB5) ?_ ?_; (focus (first | omega | (simp; done) | (simp; omega)))) | (with_reducible refine bvia (unhide HB6) ?_ ?_; (focus (first | omega | (simp; done) | (simp; omega)))))
set_option maxRecDepth 10000 in
theorem slotsPage_any (hF : ∀ j, d.F j < 256) (hrel : DevRel W b t d) (i : Int) :
    Calls Tryz.prog 38 #[.pointer (some ⟨b, 0, none⟩), .int .i64 i] W fun e w' => e = .returned (.string (pageT d.F i)) ∧ W = w' := by
  obtain ⟨x, y, z, hd, hm⟩ := hrel
  have HP : Hid (Calls Tryz.prog 60 #[.pointer (some ⟨b, 0, none⟩), .int .i64 i] W fun e w' => e = .returned (.string (pageT d.F i)) ∧ W = w') := by
    have HD := hide hd
    have HF := hide hF
    clear hd hm
    show Calls _ _ _ _ _
    go_enter Tryz.func60, Tryz.ntmps60
    go_wp2_with fail
    refine (flashPage_any (unhide HD) (unhide HF) i).mono ?_
    rintro e w' ⟨rfl, rfl⟩
    generalize hT : pageT d.F i = T at *
    have HT := hide hT
    clear hT
    go_wp2
    go_ret
    exact ⟨ret_string HT.out.symm, rfl⟩
  clear hd hm hF
  go_enter Tryz.func38, Tryz.ntmps38
  go_wp2_with fail
  refine (unhide HP).mono ?_
  rintro e w' ⟨rfl, rfl⟩
  generalize hT : pageT d.F i = T at *
  have HT := hide hT
  clear hT
  go_wp2
  go_ret
  exact ⟨ret_string HT.out.symm, rfl⟩
set_option maxRecDepth 10000 in
set_option maxHeartbeats 1000000 in
theorem slotsDo_any (hI : M.Inv' d) (hz : M.Tz d.F) (hk : d.key.size ≤ 16) (e : M.Ev) (ht : e.text.size ≤ maxLen) (hrel : DevRel W b t d) :
    Calls Tryz.prog 57 #[.pointer (some ⟨b, 0, none⟩), evV e.kind e.n e.text e.cut e.torn] W fun y w' => Played W b t d e y w' := by
  have hlt := hrel.lt
  have HR := hide hrel
  have HDO := hide (fun (X : World) (hX : DevRel X b t d) => devDo_any hI hz hk e ht hX)
  clear hrel hI hz hk ht
  obtain ⟨k, n, tx, cut, torn⟩ := e
  dsimp only at *
  have rule : ∀ (X : World) (o : Nat), X.heap[W.heap.size]? = some (.cells #[.int .i64 k, .int .i64 n, .string tx, .int .i64 cut, .int .i64 torn] 74 (0, 0)) → X.cell? ⟨W.heap.size, o, none⟩ = (#[.int .i64 k, .int .i64 n, .string tx, .int .i64 cut, .int .i64 torn] : Array Value)[o]? := fun X o h => cell_in h o
  go_enter Tryz.func57, Tryz.ntmps57
  go_wp2_with fail
  go_region_held3 (fun X => X.heap[W.heap.size]? = some (.cells #[.int .i64 k, .int .i64 n, .string tx, .int .i64 cut, .int .i64 torn] 74 (0, 0))) (repeat (first | with_reducible exact hC1 | with_reducible exact drew_block (first_block _ _ _) | (with_reducible refine sblk ?_ ?_; (focus omega)))) ((go_at_call 77; refine (unhide HDO _ (DevRel.kept (unhide HR) ((((Below.refl _ _).alloc (Nat.le_refl _) _).alloc (by simp) _).drew))).mono ?_; rintro y w1 ⟨rfl, hr1, ho1⟩; have hC1 := (ho1.block W.heap.size (by simp; omega) (by omega)).trans (drew_block (first_block _ _ _)); have kR := (ho1.block (W.heap.size + 1) (by simp) (by omega)).trans (drew_block (second_block _ _ _)); have hxR := (block_facts kR).1; have hfR := (block_facts kR).2))
  all_goals
    have HOL : Hid (Only (· = b) W w1) := (Only.of (((Below.refl W.heap.size W).alloc (Nat.le_refl _) _).alloc (by simp) _).drew).trans ho1
    have HR1 := hide hr1
    have nb : ¬ W.heap.size + 1 = b := by omega
    have nb2 : ¬ b = W.heap.size + 1 := by omega
    clear hC1 kR hr1 ho1 rule HDO
    generalize hrp : (M.doM d ⟨k, n, tx, cut, torn⟩).2 = rp at *
    have HRP := hide hrp
    clear hrp
    go_wp2
    refine bodyPost_ret (v := rpV rp) (by simp [results, Tryz.results57, go_sem, hxR]) rfl ⟨by rw [HRP.out], ?_, ?_⟩
    · obtain ⟨x, y, z, hd, hm⟩ := unhide HR1
      refine ⟨x, y, z, ?_, hm⟩
      have KD : Hid (w1.heap[b]? = some (.cells (devCells (M.doM d ⟨k, n, tx, cut, torn⟩).1.key (M.doM d ⟨k, n, tx, cut, torn⟩).1.F (M.doM d ⟨k, n, tx, cut, torn⟩).1.on x y z) t (0, 0))) := hd
      unfold DevAt
      repeat (first | with_reducible exact unhide KD | (with_reducible refine lblk ?_; (focus (first | rfl | (simp; done)))) | with_reducible refine ablk ?_ | with_reducible refine drew_block ?_ | (with_reducible refine sblk ?_ ?_; (focus (first | omega | (simp; done) | (simp; omega)))))
    · repeat (first | with_reducible exact unhide HOL | with_reducible refine ol_drew ?_ | with_reducible refine ol_dev ?_ | (with_reducible refine ol_set ?_ ?_; (focus (first | omega | (simp; done) | (simp; omega)))) | with_reducible refine ol_alloc ?_ | with_reducible refine ol_via (unhide HB6) ?_ | with_reducible refine ol_via (unhide HB7) ?_)
end
end Go.Proofs.YtjfmiomopfjecabGreat

/- The document's device: what it tells of itself; how many pages an event writes. -/
namespace Go.Proofs.YtjfmiomopfjecabGreat
open Go.RowKit Go.Lib

section
variable {X : World} {g : Nat} {d : M.Dev}
theorem installs_few (d : M.Dev) : (M.installs d).ws.length ≤ 30 := by
  unfold M.installs
  by_cases hb : (M.builtN d.F).1 ≠ 0
  · rw [if_pos hb]; show 1 ≤ 30; omega
  · rw [if_neg hb]
    have hsz := M.image_size (M.built_ok (F := d.F) (by omega)).1
    show (M.slotW _ _ ++ [_]).length ≤ 30
    rw [List.length_append]
    unfold M.slotW M.chunksN
    simp
    omega
theorem planned_few (d : M.Dev) (e : M.Ev) : (M.planned d e).ws.length ≤ 30 := by
  unfold M.planned
  split
  · show 0 ≤ 30; omega
  split
  · show 0 ≤ 30; omega
  split
  · show 0 ≤ 30; omega
  split
  · show 0 ≤ 30; omega
  split
  · show (if M.fld d.F 2 = 2 then (if M.fld d.F 3 = 0 then [M.sameW d.F 0 0 0] else [M.sameW d.F 0 2 (M.fld d.F 3 - 1)]) else []).length ≤ 30
    split
    · split <;> (show 1 ≤ 30; omega)
    · show 0 ≤ 30; omega
  split
  · unfold M.ticks
    split
    · show (if 5 ≤ d.age + 1 then [M.sameW d.F 0 0 0] else []).length ≤ 30
      split
      · show 1 ≤ 30; omega
      · show 0 ≤ 30; omega
    split
    · split
      · exact installs_few d
      · split <;> (show 0 ≤ 30; omega)
    · show 0 ≤ 30; omega
  split
  · show 0 ≤ 30; omega
  split
  · unfold M.offers
    split
    · show 0 ≤ 30; omega
    split
    · show 0 ≤ 30; omega
    split
    · show 0 ≤ 30; omega
    · show ((if M.fld d.F 2 = 1 then [M.sameW d.F 0 0 (M.fld d.F 3)] else []) ++ [_, _, _] ++ [_]).length ≤ 30
      rw [List.length_append, List.length_append]
      split <;> simp
  split
  · unfold M.takes
    split
    · show 0 ≤ 30; omega
    split
    · show 0 ≤ 30; omega
    split
    · show 0 ≤ 30; omega
    · show 2 ≤ 30; omega
  · unfold M.confirms
    split
    · show 0 ≤ 30; omega
    · show 1 ≤ 30; omega
set_option maxRecDepth 10000 in
theorem refStat_off (hR : RefAt X g d) (hon : d.on = false) :
    Calls Tryz.prog 66 #[.pointer (some ⟨g, 0, none⟩)] X fun e w' => e = .returned (statOf d) ∧ Below X.heap.size X w' := by
  have HE : Hid (statOf d = statNo) := by show _ = _; unfold statOf; rw [hon]; rfl
  have hx := hR.onC
  rw [hon] at hx
  have hgl := hR.lt
  have n1 : ¬ g = X.heap.size := by omega
  clear hR hon
  go_enter Tryz.func66, Tryz.ntmps66
  go_wp2
  refine bodyPost_ret (v := statNo) (by simp [results, Tryz.results66, go_sem]) rfl ⟨by rw [HE.out], ?_⟩
  repeat (first | with_reducible exact unhide HB | with_reducible exact Below.refl _ _ | with_reducible refine bdrew ?_ | (with_reducible refine brow ?_ ?_; (focus (first | omega | (simp; done) | (simp; omega)))) | (with_reducible refine bset ?_ ?_; (focus (first | omega | (simp; done) | (simp; omega)))) | (with_reducible refine balloc ?_ ?_; (focus (first | omega | (simp; done) | (simp; omega)))) | (with_reducible refine bvia (unhide HB1) ?_ ?_; (focus (first | omega | (simp; done) | (simp; omega)))) | (with_reducible refine bvia (unhide HB2) ?_ ?_; (focus (first | omega | (simp; done) | (simp; omega)))) | (with_reducible refine bvia (unhide HB3) ?_ ?_; (focus (first | omega | (simp; done) | (simp; omega)))) | (with_reducible refine bvia (unhide HB4) ?_ ?_; (focus (first | omega | (simp; done) | (simp; omega)))) | (with_reducible refine bvia (unhide HB5) ?_ ?_; (focus (first | omega | (simp; done) | (simp; omega)))) | (with_reducible refine bvia (unhide HB6) ?_ ?_; (focus (first | omega | (simp; done) | (simp; omega)))))
set_option maxRecDepth 10000 in
set_option maxHeartbeats 1000000 in
theorem refStat_on (hI : M.Inv' d) (hR : RefAt X g d) (hon : d.on = true) (hp : ¬ M.fld d.F 2 = 1) :
    Calls Tryz.prog 66 #[.pointer (some ⟨g, 0, none⟩)] X fun e w' => e = .returned (statOf d) ∧ Below X.heap.size X w' := by
  have HE : Hid (statOf d = .agg #[.bool true, .int .i64 (M.fld d.F 2), .int .i64 (M.servedD d.F), .int .i64 (M.verOf d.F (M.servedD d.F)), .int .i64 (M.verOf d.F (M.fld d.F 1)), .int .i64 (M.fld d.F 3), .int .i64 0]) := by show _ = _; unfold statOf; rw [if_pos hon, if_neg hp]; rfl
  have hF := hI.2.1.bytes
  have hk1 := hI.2.1.kept
  have hsv : M.servedD d.F ≤ 1 := by unfold M.servedD; split <;> omega
  have HR1 : Hid (RefAt (X.alloc (.cells #[.bool false, .int .i64 0, .int .i64 0, .int .i64 0, .int .i64 0, .int .i64 0, .int .i64 0] 119)) g d) := hR.kept ((Below.refl _ _).alloc (Nat.le_refl _) _)
  have HSV := hide (fun (Y : World) (hY : RefAt Y g d) => refServed_any hY hF hk1)
  have HFI : Hid (∀ (Y : World) (i : Nat) (k : Int), i < 16 → k = i → RefAt Y g d → Calls Tryz.prog 93 #[.pointer (some ⟨g, 0, none⟩), .int .i64 k] Y fun e w' => e = .returned (.int .i64 (M.fld d.F i)) ∧ Y = w') := fun Y i k hi hk hY => refField_at hY hF i hi k hk
  have HV1 := hide (fun (Y : World) (hY : RefAt Y g d) => refVersion_any hY hF (M.servedD d.F) hsv)
  have HV2 := hide (fun (Y : World) (hY : RefAt Y g d) => refVersion_any hY hF (M.fld d.F 1) hk1)
  have hx := hR.onC
  rw [hon] at hx
  have hgl := hR.lt
  have n1 : ¬ g = X.heap.size := by omega
  have hp' : ¬ (M.fld d.F 2 : Int) = 1 := by omega
  clear hI hR hon hF
  go_enter Tryz.func66, Tryz.ntmps66
  go_wp2_with fail
  refine (unhide HSV _ (unhide HR1)).mono ?_
  rintro e _ ⟨rfl, rfl⟩
  go_wp2_with fail
  refine (unhide HFI _ 2 2 (by omega) rfl (unhide HR1)).mono ?_
  rintro e _ ⟨rfl, rfl⟩
  go_wp2_with fail
  refine (unhide HV1 _ (unhide HR1)).mono ?_
  rintro e _ ⟨rfl, rfl⟩
  go_wp2_with fail
  refine (unhide HFI _ 1 1 (by omega) rfl (unhide HR1)).mono ?_
  rintro e _ ⟨rfl, rfl⟩
  go_wp2_with fail
  refine (unhide HV2 _ (unhide HR1)).mono ?_
  rintro e _ ⟨rfl, rfl⟩
  go_wp2_with fail
  refine (unhide HFI _ 3 3 (by omega) rfl (unhide HR1)).mono ?_
  rintro e _ ⟨rfl, rfl⟩
  generalize M.verOf d.F (M.servedD d.F) = v1 at *
  generalize M.verOf d.F (M.fld d.F 1) = v2 at *
  generalize M.fld d.F 2 = f2 at *
  generalize M.fld d.F 3 = f3 at *
  generalize M.servedD d.F = sv at *
  go_wp2
  refine bodyPost_ret (v := .agg #[.bool true, .int .i64 f2, .int .i64 sv, .int .i64 v1, .int .i64 v2, .int .i64 f3, .int .i64 0]) (by simp [results, Tryz.results66, go_sem]) rfl ⟨by rw [HE.out], ?_⟩
  repeat (first | with_reducible exact unhide HB | with_reducible exact Below.refl _ _ | with_reducible refine bdrew ?_ | (with_reducible refine brow ?_ ?_; (focus (first | omega | (simp; done) | (simp; omega)))) | (with_reducible refine bset ?_ ?_; (focus (first | omega | (simp; done) | (simp; omega)))) | (with_reducible refine balloc ?_ ?_; (focus (first | omega | (simp; done) | (simp; omega)))) | (with_reducible refine bvia (unhide HB1) ?_ ?_; (focus (first | omega | (simp; done) | (simp; omega)))) | (with_reducible refine bvia (unhide HB2) ?_ ?_; (focus (first | omega | (simp; done) | (simp; omega)))) | (with_reducible refine bvia (unhide HB3) ?_ ?_; (focus (first | omega | (simp; done) | (simp; omega)))) | (with_reducible refine bvia (unhide HB4) ?_ ?_; (focus (first | omega | (simp; done) | (simp; omega)))) | (with_reducible refine bvia (unhide HB5) ?_ ?_; (focus (first | omega | (simp; done) | (simp; omega)))) | (with_reducible refine bvia (unhide HB6) ?_ ?_; (focus (first | omega | (simp; done) | (simp; omega)))))
end
end Go.Proofs.YtjfmiomopfjecabGreat

/- The document's device: what it tells of itself while it fetches. -/
namespace Go.Proofs.YtjfmiomopfjecabGreat
open Go.RowKit Go.Lib

section
variable {X : World} {g : Nat} {d : M.Dev}
set_option maxRecDepth 10000 in
set_option maxHeartbeats 1000000 in
theorem refStat_miss (hI : M.Inv' d) (hR : RefAt X g d) (hon : d.on = true) (hp : M.fld d.F 2 = 1) :
    Calls Tryz.prog 66 #[.pointer (some ⟨g, 0, none⟩)] X fun e w' => e = .returned (statOf d) ∧ Below X.heap.size X w' := by
  have HE : Hid (statOf d = .agg #[.bool true, .int .i64 1, .int .i64 (M.servedD d.F), .int .i64 (M.verOf d.F (M.servedD d.F)), .int .i64 (M.verOf d.F (M.fld d.F 1)), .int .i64 (M.fld d.F 3), .int .i64 (M.missing d.F).length]) := by show _ = _; unfold statOf; rw [if_pos hon, if_pos hp]; unfold statV; rw [hp]; rfl
  have hF := hI.2.1.bytes
  have hk1 := hI.2.1.kept
  obtain ⟨a, ha⟩ := hI.2.1.man hp
  have hsv : M.servedD d.F ≤ 1 := by unfold M.servedD; split <;> omega
  have HR1 : Hid (RefAt (X.alloc (.cells #[.bool false, .int .i64 0, .int .i64 0, .int .i64 0, .int .i64 0, .int .i64 0, .int .i64 0] 119)) g d) := hR.kept ((Below.refl _ _).alloc (Nat.le_refl _) _)
  have HSV := hide (fun (Y : World) (hY : RefAt Y g d) => refServed_any hY hF hk1)
  have HF2 : Hid (∀ (Y : World), RefAt Y g d → Calls Tryz.prog 93 #[.pointer (some ⟨g, 0, none⟩), .int .i64 2] Y fun e w' => e = .returned (.int .i64 1) ∧ Y = w') := fun Y hY => by
    have := refField_at hY hF 2 (by omega) 2 rfl
    rw [hp] at this
    exact this
  have HFI : Hid (∀ (Y : World) (i : Nat) (k : Int), i < 16 → k = i → RefAt Y g d → Calls Tryz.prog 93 #[.pointer (some ⟨g, 0, none⟩), .int .i64 k] Y fun e w' => e = .returned (.int .i64 (M.fld d.F i)) ∧ Y = w') := fun Y i k hi hk hY => refField_at hY hF i hi k hk
  have HV1 := hide (fun (Y : World) (hY : RefAt Y g d) => refVersion_any hY hF (M.servedD d.F) hsv)
  have HV2 := hide (fun (Y : World) (hY : RefAt Y g d) => refVersion_any hY hF (M.fld d.F 1) hk1)
  have HMI : Hid (∀ (Y : World) (C C' : Array Value), RefAt Y g d → Y.heap[X.heap.size]? = some (.cells C 119 (0, 0)) → Y.heap[X.heap.size + 1]? = some (.cells C' 119 (0, 0)) → Below X.heap.size X Y → Calls Tryz.prog 94 #[.pointer (some ⟨g, 0, none⟩)] Y fun e w' => ∃ ao cap, e = .returned (.slice ao (M.missing d.F).length cap) ∧ w'.heap[X.heap.size]? = some (.cells C 119 (0, 0)) ∧ w'.heap[X.heap.size + 1]? = some (.cells C' 119 (0, 0)) ∧ Below X.heap.size X w') := fun Y C C' hY hC hC' hB => (refMissing_any hY hF ha).mono fun e w' ⟨v, h1, hown, hb⟩ => by
    obtain ⟨ao, cap, hv, -⟩ := (holdsRow_own hown).shape
    subst hv
    rw [natI_length] at h1
    exact ⟨ao, cap, h1, kept_block hb hC, kept_block hb hC', hB.trans (hb.mono hB.size)⟩
  have HX : Hid (X.heap[g]? = some (.cells (refC d) 118 (0, 0))) := hR
  have hlm : (M.missing d.F).length ≤ 1000 := by
    unfold M.missing
    refine Nat.le_trans (List.length_filter_le _ _) ?_
    have := (M.sealOf_le ha).2.2.2.1
    simp
    unfold M.chunksN
    omega
  have hx := hR.onC
  rw [hon] at hx
  have hgl := hR.lt
  have n1 : ¬ g = X.heap.size := by omega
  clear hI hR hon hF ha
  go_enter Tryz.func66, Tryz.ntmps66
  go_wp2_with fail
  refine (unhide HSV _ (unhide HR1)).mono ?_
  rintro e _ ⟨rfl, rfl⟩
  go_wp2_with fail
  refine (unhide HF2 _ (unhide HR1)).mono ?_
  rintro e _ ⟨rfl, rfl⟩
  go_wp2_with fail
  refine (unhide HV1 _ (unhide HR1)).mono ?_
  rintro e _ ⟨rfl, rfl⟩
  go_wp2_with fail
  refine (unhide HFI _ 1 1 (by omega) rfl (unhide HR1)).mono ?_
  rintro e _ ⟨rfl, rfl⟩
  go_wp2_with fail
  refine (unhide HV2 _ (unhide HR1)).mono ?_
  rintro e _ ⟨rfl, rfl⟩
  go_wp2_with fail
  refine (unhide HFI _ 3 3 (by omega) rfl (unhide HR1)).mono ?_
  rintro e _ ⟨rfl, rfl⟩
  clear hp
  generalize M.verOf d.F (M.servedD d.F) = v1 at *
  generalize M.verOf d.F (M.fld d.F 1) = v2 at *
  generalize M.fld d.F 3 = f3 at *
  generalize M.servedD d.F = sv at *
  go_wp2_with fail
  have HB := hide (Below.refl X.heap.size X)
  refine (unhide HMI _ #[.bool false, .int .i64 0, .int .i64 0, .int .i64 0, .int .i64 0, .int .i64 0, .int .i64 0] #[.bool true, .int .i64 1, .int .i64 sv, .int .i64 v1, .int .i64 v2, .int .i64 f3, .int .i64 0] ?_ ?_ ?_ ?_).mono ?_
  · unfold RefAt
    repeat (first | with_reducible exact unhide HX | (with_reducible refine lblk ?_; (focus (first | rfl | (simp; done)))) | with_reducible refine ablk ?_ | with_reducible refine drew_block ?_ | (with_reducible refine sblk ?_ ?_; (focus (first | omega | (simp; done) | (simp; omega)))))
  · exact first_block X _ _
  · exact second_block X _ _
  · repeat (first | with_reducible exact unhide HB | with_reducible exact Below.refl _ _ | with_reducible refine bdrew ?_ | (with_reducible refine brow ?_ ?_; (focus (first | omega | (simp; done) | (simp; omega)))) | (with_reducible refine bset ?_ ?_; (focus (first | omega | (simp; done) | (simp; omega)))) | (with_reducible refine balloc ?_ ?_; (focus (first | omega | (simp; done) | (simp; omega)))) | (with_reducible refine bvia (unhide HB1) ?_ ?_; (focus (first | omega | (simp; done) | (simp; omega)))) | (with_reducible refine bvia (unhide HB2) ?_ ?_; (focus (first | omega | (simp; done) | (simp; omega)))) | (with_reducible refine bvia (unhide HB3) ?_ ?_; (focus (first | omega | (simp; done) | (simp; omega)))) | (with_reducible refine bvia (unhide HB4) ?_ ?_; (focus (first | omega | (simp; done) | (simp; omega)))) | (with_reducible refine bvia (unhide HB5) ?_ ?_; (focus (first | omega | (simp; done) | (simp; omega)))) | (with_reducible refine bvia (unhide HB6) ?_ ?_; (focus (first | omega | (simp; done) | (simp; omega)))))
  · rintro e w1 ⟨ao, cap, rfl, k0, k1, hb⟩
    have HB := hide hb
    obtain ⟨hx0, hf0⟩ := block_facts k0
    obtain ⟨hx1, hf1⟩ := block_facts k1
    have hs1 := hb.size
    have lx1 : X.heap.size + 1 < w1.heap.size := (Array.getElem?_eq_some_iff.1 k1).1
    have lx : X.heap.size < w1.heap.size := by omega
    clear hb k0 k1 HMI HX HR1
    generalize hml : (M.missing d.F).length = ml at *
    have HML := hide hml
    clear hml
    go_wp2
    refine bodyPost_ret (v := .agg #[.bool true, .int .i64 1, .int .i64 sv, .int .i64 v1, .int .i64 v2, .int .i64 f3, .int .i64 ml]) (by simp [results, Tryz.results66, go_sem, hx0]) rfl ⟨by rw [HE.out], ?_⟩
    repeat (first | with_reducible exact unhide HB | with_reducible exact Below.refl _ _ | with_reducible refine bdrew ?_ | (with_reducible refine brow ?_ ?_; (focus (first | omega | (simp; done) | (simp; omega)))) | (with_reducible refine bset ?_ ?_; (focus (first | omega | (simp; done) | (simp; omega)))) | (with_reducible refine balloc ?_ ?_; (focus (first | omega | (simp; done) | (simp; omega)))) | (with_reducible refine bvia (unhide HB1) ?_ ?_; (focus (first | omega | (simp; done) | (simp; omega)))) | (with_reducible refine bvia (unhide HB2) ?_ ?_; (focus (first | omega | (simp; done) | (simp; omega)))) | (with_reducible refine bvia (unhide HB3) ?_ ?_; (focus (first | omega | (simp; done) | (simp; omega)))) | (with_reducible refine bvia (unhide HB4) ?_ ?_; (focus (first | omega | (simp; done) | (simp; omega)))) | (with_reducible refine bvia (unhide HB5) ?_ ?_; (focus (first | omega | (simp; done) | (simp; omega)))) | (with_reducible refine bvia (unhide HB6) ?_ ?_; (focus (first | omega | (simp; done) | (simp; omega)))))
/-- what the document's device tells of itself -/
theorem refStatus_any (hI : M.Inv' d) (hR : RefAt X g d) :
    Calls Tryz.prog 66 #[.pointer (some ⟨g, 0, none⟩)] X fun e w' => e = .returned (statOf d) ∧ Below X.heap.size X w' := by
  by_cases hon : d.on = true
  · by_cases hp : M.fld d.F 2 = 1
    · exact refStat_miss hI hR hon hp
    · exact refStat_on hI hR hon hp
  · exact refStat_off hR (by cases h : d.on; rfl; exact absurd h hon)
end
end Go.Proofs.YtjfmiomopfjecabGreat

/- The document's new device: its flash as a text. -/
namespace Go.Proofs.YtjfmiomopfjecabGreat
open Go.RowKit Go.Lib

/-- a byte and a nought -/
abbrev lenT (n : Nat) : ByteArray := ⟨#[UInt8.ofNat (n : Int).toNat, UInt8.ofNat (0 : Int).toNat]⟩
theorem lenT_bytes (n : Nat) : lenT n = M.bytesOf [n, 0] := rfl
theorem zeros_bz (n i : Nat) : M.bz (M.mk n fun _ => 0) i = 0 := by
  by_cases h : i < n
  · exact M.bz_mk (fun _ _ => by omega) h
  · exact M.bz_out _ _ (by rw [M.mk_size]; omega)
def refRecord (n v : Nat) : ByteArray := (((⟨#[1, 0, 0, 0]⟩ : ByteArray) ++ lenT n) ++ M.wordText v ++ M.mk 7 fun _ => 0) ++ ⟨#[1]⟩
theorem refRecord_is {n v : Nat} (hv : v ≤ 65535) : refRecord n v = M.bytesOf [1, 0, 0, 0, n, 0, v / 256, v % 256, 0, 0, 0, 0, 0, 0, 0, 1] := by
  have e1 : M.wordText (v : Int) = M.bytesOf [v / 256, v % 256] := by
    rw [M.wordText_bytes]
    unfold M.wordL M.unword
    rw [if_neg (by omega)]
    congr 2
  have e2 : (M.mk 7 fun _ => 0) = M.bytesOf [0, 0, 0, 0, 0, 0, 0] := rfl
  unfold refRecord
  rw [e1, e2, lenT_bytes, show (⟨#[1, 0, 0, 0]⟩ : ByteArray) = M.bytesOf [1, 0, 0, 0] from rfl, show (⟨#[1]⟩ : ByteArray) = M.bytesOf [1] from rfl, M.bytesOf_append, M.bytesOf_append, M.bytesOf_append, M.bytesOf_append]
  rfl
theorem newText_is {image : ByteArray} {v : Nat} (hi : image.size ≤ 96) (hv : v ≤ 65535) :
    refRecord image.size v ++ (M.mk 160 fun _ => 0) ++ image ++ (M.mk (192 - image.size) fun _ => 0) = M.mk 368 (M.newF image v) := by
  have hb : ∀ p, M.newF image v p < 256 := by
    intro p
    unfold M.newF
    exact M.ite_lt (by omega) (M.ite_lt (by omega) (M.ite_lt (by omega) (M.ite_lt (by omega) (M.ite_lt (by omega) (M.ite_lt (M.bz_lt _ _) (by omega))))))
  rw [refRecord_is hv]
  have hA : M.AllB [1, 0, 0, 0, image.size, 0, v / 256, v % 256, 0, 0, 0, 0, 0, 0, 0, 1] := by
    intro x hx
    simp at hx
    omega
  have hsz : (M.bytesOf [1, 0, 0, 0, image.size, 0, v / 256, v % 256, 0, 0, 0, 0, 0, 0, 0, 1]).size = 16 := by rw [M.bytesOf_size]; rfl
  refine M.bz_ext (by simp [M.mk_size, hsz]; omega) fun j hj => ?_
  have hj' : j < 368 := by simp [M.mk_size, hsz] at hj; omega
  rw [M.bz_mk (fun j _ => hb j) hj', M.bz_append, M.bz_append, M.bz_append, zeros_bz, zeros_bz, M.bz_bytesOf hA, ByteArray.size_append, ByteArray.size_append, hsz, M.mk_size]
  by_cases h1 : j < 16
  · rw [if_pos (by omega), if_pos (by omega), if_pos h1]
    have hc : j = 0 ∨ j = 1 ∨ j = 2 ∨ j = 3 ∨ j = 4 ∨ j = 5 ∨ j = 6 ∨ j = 7 ∨ j = 8 ∨ j = 9 ∨ j = 10 ∨ j = 11 ∨ j = 12 ∨ j = 13 ∨ j = 14 ∨ j = 15 := by omega
    rcases hc with rfl | rfl | rfl | rfl | rfl | rfl | rfl | rfl | rfl | rfl | rfl | rfl | rfl | rfl | rfl | rfl
    all_goals first | rfl | (rw [M.newF_nought (by omega) (by omega) (by omega) (by omega) (by omega) (by omega)]; rfl)
  · by_cases h2 : j < 176
    · rw [if_pos (by omega), if_pos (by omega), if_neg h1, M.newF_nought (by omega) (by omega) (by omega) (by omega) (by omega) (by omega)]
    · by_cases h3 : j < 176 + image.size
      · rw [if_pos (by omega), if_neg (by omega)]
        have := M.newF_at (image := image) (version := v) (j := j - 176) (by omega)
        rw [show 176 + (j - 176) = j from by omega] at this
        rw [this]
      · rw [if_neg (by omega)]
        unfold M.newF
        rw [if_neg (by omega), if_neg (by omega), if_neg (by omega), if_neg (by omega), if_neg (by omega), if_neg (by omega)]
theorem refBytes_up (v : Nat) (w : World) (h : v ≤ 65535) :
    Calls Tryz.prog 87 #[.int .i64 v] w fun e w' => e = .returned (.string (M.wordText v)) ∧ Below w.heap.size w w' := by
  have hr := word_run w v
  have hn : ¬ (v : Int) < 0 := by omega
  have e : M.unword (v : Int) = v := if_neg hn
  rw [e] at hr
  have h1 : (0 : Int) ≤ (v : Int) / 256 ∧ (v : Int) / 256 < 256 := by omega
  have h2 : (0 : Int) ≤ (v : Int) % 256 ∧ (v : Int) % 256 < 256 := by omega
  go_enter Tryz.func87, Tryz.ntmps87
  go_wp2
  go_ret
  exact ⟨rfl, (Below.refl _ _).alloc (Nat.le_refl _) _⟩
end Go.Proofs.YtjfmiomopfjecabGreat

/- The document's new device. -/
namespace Go.Proofs.YtjfmiomopfjecabGreat
open Go.RowKit Go.Lib

set_option maxRecDepth 10000 in
set_option maxHeartbeats 4000000 in
theorem refNew_ok (key image : ByteArray) (version : Nat) (W : World) (hk : key.size ≤ 16) (hi : M.isImage image = true) (hv : version ≤ 65535) :
    Calls Tryz.prog 64 #[.string key, .string image, .int .i64 version] W fun e w' => ∃ g, e = .returned (.tuple #[.pointer (some ⟨g, 0, none⟩), .int .i64 0]) ∧ W.heap.size ≤ g ∧ RefAt w' g (M.newD key image version) ∧ Below W.heap.size W w' := by
  have himg := M.image_size hi
  have HIM : Hid (∀ w : World, Calls Tryz.prog 86 #[.string image] w fun e w' => e = .returned (.bool true) ∧ w = w') := fun w => by
    have := refImage_any image w (by unfold maxLen; omega)
    rw [hi] at this
    exact this
  have HT : Hid (((((⟨#[1, 0, 0, 0]⟩ : ByteArray) ++ lenT image.size) ++ M.wordText version ++ M.mk 7 fun _ => 0) ++ ⟨#[1]⟩) ++ (M.mk 160 fun _ => 0) ++ image ++ (M.mk (192 - image.size) fun _ => 0) = M.mk 368 (M.newF image version)) := newText_is (by omega) hv
  have e2 : (lenT image.size).size = 2 := rfl
  have e3 : (M.wordText version).size = 2 := M.wordText_size _
  have e4 : (M.mk 7 fun _ => 0).size = 7 := M.mk_size _ _
  have e5 : (M.mk 160 fun _ => 0).size = 160 := M.mk_size _ _
  have e6 : (M.mk (192 - image.size) fun _ => 0).size ≤ 192 := by rw [M.mk_size]; omega
  have HZ7 : Hid (∀ w : World, Calls Tryz.prog 88 #[.int .i64 7] w fun e w' => e = .returned (.string (M.mk 7 fun _ => 0)) ∧ w = w') := fun w => noughts_any 7 w (by omega)
  have HZ1 : Hid (∀ w : World, Calls Tryz.prog 88 #[.int .i64 160] w fun e w' => e = .returned (.string (M.mk 160 fun _ => 0)) ∧ w = w') := fun w => noughts_any 160 w (by omega)
  have HZ2 : Hid (∀ (w : World) (k : Int), k = 192 - (image.size : Int) → Calls Tryz.prog 88 #[.int .i64 k] w fun e w' => e = .returned (.string (M.mk (192 - image.size) fun _ => 0)) ∧ w = w') := fun w k hk => by
    have := noughts_any (192 - image.size) w (by omega)
    rw [show (((192 - image.size : Nat)) : Int) = k from by omega] at this
    exact this
  have hrC : ∀ Y : World, (convert 79 9 (.slice (some ⟨Y.heap.size, 0, none⟩) 2 2)).run Tryz.prog ((Y.alloc (.cells #[.int .u8 image.size, .int .u8 0] 5)).drew) = .ok (.string (lenT image.size)) ((Y.alloc (.cells #[.int .u8 image.size, .int .u8 0] 5)).drew) := fun Y => text_in _ _ [(image.size : Int), 0] 2 rfl (drew_block (last_block Y _ rfl))
  have hrC2 : ∀ Y : World, (convert 79 9 (.slice (some ⟨Y.heap.size, 0, none⟩) 2 2)).run Tryz.prog (Y.alloc (.cells #[.int .u8 image.size, .int .u8 0] 5)) = .ok (.string (lenT image.size)) (Y.alloc (.cells #[.int .u8 image.size, .int .u8 0] 5)) := fun Y => text_in _ _ [(image.size : Int), 0] 2 rfl (last_block Y _ rfl)
  have HBY1 : Hid (Calls Tryz.prog 87 #[.int .i64 version] W.drew fun e w' => e = .returned (.string (M.wordText version)) ∧ Below W.heap.size W w') := (refBytes_up version W.drew hv).mono fun e w' ⟨h1, h2⟩ => ⟨h1, (Below.refl _ _).drew.trans h2⟩
  have HBY2 : Hid (Calls Tryz.prog 87 #[.int .i64 version] ((W.alloc (.cells #[.int .u8 image.size, .int .u8 0] 5)).drew) fun e w' => e = .returned (.string (M.wordText version)) ∧ Below W.heap.size W w' ∧ (convert 79 9 (.slice (some ⟨W.heap.size, 0, none⟩) 2 2)).run Tryz.prog w' = .ok (.string (lenT image.size)) w') := (refBytes_up version _ hv).mono fun e w' ⟨h1, h2⟩ => ⟨h1, (((Below.refl W.heap.size W).alloc (Nat.le_refl _) _).drew).trans (h2.mono (by simp)), text_in _ _ [(image.size : Int), 0] 2 rfl (kept_block h2 (drew_block (last_block W _ rfl)))⟩
  have hwr : IntKind.u8.wrap (image.size : Int) = image.size := by simp [IntKind.wrap, IntKind.bits, IntKind.signed]; omega
  have hk1 : ¬ (16 : Int) < (key.size : Int) := by omega
  have hv0 : ¬ (version : Int) < 0 := by omega
  have hv1 : ¬ (65535 : Int) < (version : Int) := by omega
  have hz0 := himg.2
  have hz1 := himg.1
  clear hi himg
  generalize lenT image.size = LT at *
  generalize M.wordText version = VT at *
  generalize (M.mk 7 fun _ => 0) = Z7 at *
  generalize (M.mk 160 fun _ => 0) = Z1 at *
  generalize (M.mk (192 - image.size) fun _ => 0) = Z2 at *
  go_enter Tryz.func64, Tryz.ntmps64
  go_wp2_with fail
  refine (unhide HIM _).mono ?_
  rintro e _ ⟨rfl, rfl⟩
  go_wp2_with fail
  refine cut_normal (fun a Z => ∃ (x19 x20 x22 x23 x24 x25 x26 x27 x28 x29 x30 x31 x32 x33 x34 x35 : Value), a = ⟨#[.string key, .string image, .int .i64 version, undef, undef, undef, .pointer none, .int .i64 0, .bool true, .string (⟨#[1, 0, 0, 0]⟩ ++ LT ++ VT ++ Z7 ++ ⟨#[1]⟩), undef, .string key, .int .i64 key.size, .bool false, .string image, .bool true, .bool true, .bool false, .int .i64 version, x19, x20, .int .i64 version, x22, x23, x24, x25, x26, x27, x28, x29, x30, x31, x32, x33, x34, x35, undef, undef, undef, undef, undef, undef, undef, undef, undef, undef, undef, undef, undef, undef], []⟩ ∧ Below W.heap.size W Z) ?_ ?_
  · go_region_held (fun _ => True) (first | trivial | (intros; trivial)) ((first | (go_at_call 88; with_reducible refine (unhide HZ7 _).mono ?_; rintro y wN ⟨rfl, rfl⟩) | (go_at_call 87; with_reducible refine (unhide HBY1).mono ?_; rintro y w1 ⟨rfl, hb1⟩) | (go_at_call 87; with_reducible refine (unhide HBY2).mono ?_; rintro y w1 ⟨rfl, hb1, hcv⟩)))
    all_goals
      have HB := hide hb1
      have hs1 := hb1.size
      refine onNormal ⟨_, _, _, _, _, _, _, _, _, _, _, _, _, _, _, _, rfl, ?_⟩
      repeat (first | with_reducible exact unhide HB | with_reducible exact Below.refl _ _ | with_reducible refine bdrew ?_ | (with_reducible refine brow ?_ ?_; (focus (first | omega | (simp; done) | (simp; omega)))) | (with_reducible refine bset ?_ ?_; (focus (first | omega | (simp; done) | (simp; omega)))) | (with_reducible refine balloc ?_ ?_; (focus (first | omega | (simp; done) | (simp; omega)))) | (with_reducible refine bvia (unhide HB1) ?_ ?_; (focus (first | omega | (simp; done) | (simp; omega)))) | (with_reducible refine bvia (unhide HB2) ?_ ?_; (focus (first | omega | (simp; done) | (simp; omega)))) | (with_reducible refine bvia (unhide HB3) ?_ ?_; (focus (first | omega | (simp; done) | (simp; omega)))) | (with_reducible refine bvia (unhide HB4) ?_ ?_; (focus (first | omega | (simp; done) | (simp; omega)))) | (with_reducible refine bvia (unhide HB5) ?_ ?_; (focus (first | omega | (simp; done) | (simp; omega)))) | (with_reducible refine bvia (unhide HB6) ?_ ?_; (focus (first | omega | (simp; done) | (simp; omega)))))
  · rintro _ Z ⟨x19, x20, x22, x23, x24, x25, x26, x27, x28, x29, x30, x31, x32, x33, x34, x35, rfl, hbZ⟩
    have HBZ := hide hbZ
    clear hbZ hrC hrC2 HBY1 HBY2 hwr
    go_wp2_with fail
    refine (unhide HZ1 _).mono ?_
    rintro e _ ⟨rfl, rfl⟩
    go_wp2_with fail
    refine (unhide HZ2 _ _ (by omega)).mono ?_
    rintro e _ ⟨rfl, rfl⟩
    go_wp2_with fail
    rw [HT.out]
    go_wp2
    go_ret2
    exact ⟨Z.heap.size, rfl, (unhide HBZ).size, last_block _ _ rfl, (unhide HBZ).alloc (unhide HBZ).size _⟩
set_option maxRecDepth 10000 in
theorem refNew_no (key image : ByteArray) (version : Int) (W : World) (his : image.size ≤ maxLen) (h : newNum key image version ≠ 0) :
    Calls Tryz.prog 64 #[.string key, .string image, .int .i64 version] W fun e w' => e = .returned (.tuple #[.pointer none, .int .i64 (newNum key image version)]) ∧ W = w' := by
  unfold newNum at h
  by_cases hk : 16 < key.size
  · have HE : Hid (newNum key image version = 5) := if_pos hk
    have hk1 : (16 : Int) < (key.size : Int) := by omega
    go_enter Tryz.func64, Tryz.ntmps64
    go_wp2
    go_ret2
    exact ⟨ret_nil HE.out.symm, rfl⟩
  · rw [if_neg hk] at h
    have hk1 : ¬ (16 : Int) < (key.size : Int) := by omega
    have HI := hide (fun w => refImage_any image w his)
    cases hi : M.isImage image
    · have HE : Hid (newNum key image version = 1) := by show _ = _; unfold newNum; rw [if_neg hk, hi, if_pos rfl]
      rw [hi] at HI
      go_enter Tryz.func64, Tryz.ntmps64
      go_wp2_with fail
      refine (unhide HI _).mono ?_
      rintro e _ ⟨rfl, rfl⟩
      go_wp2
      go_ret2
      exact ⟨ret_nil HE.out.symm, rfl⟩
    · rw [hi, if_neg (by simp)] at h
      have hv : version < 0 ∨ 65535 < version := by
        by_cases hv : version < 0 ∨ 65535 < version
        · exact hv
        · rw [if_neg hv] at h; exact absurd rfl h
      have HE : Hid (newNum key image version = 6) := by show _ = _; unfold newNum; rw [if_neg hk, hi, if_neg (by simp), if_pos hv]
      rw [hi] at HI
      clear h
      rcases hv with hv | hv
      · go_enter Tryz.func64, Tryz.ntmps64
        go_wp2_with fail
        refine (unhide HI _).mono ?_
        rintro e _ ⟨rfl, rfl⟩
        go_wp2
        go_ret2
        exact ⟨ret_nil HE.out.symm, rfl⟩
      · have hv0 : ¬ version < 0 := by omega
        go_enter Tryz.func64, Tryz.ntmps64
        go_wp2_with fail
        refine (unhide HI _).mono ?_
        rintro e _ ⟨rfl, rfl⟩
        go_wp2
        go_ret2
        exact ⟨ret_nil HE.out.symm, rfl⟩
end Go.Proofs.YtjfmiomopfjecabGreat

/- A device of the program and the document's beside it; a list of such pairs. -/
namespace Go.Proofs.YtjfmiomopfjecabGreat
open Go.RowKit Go.Lib

/-- the program's device and the document's are the same one -/
structure Pair (W : World) (b g : Nat) (d : M.Dev) : Prop where
  dev : DevRel W b 108 d
  ref : RefAt W g d
  inv : M.Inv' d
  tz : M.Tz d.F
  key : d.key.size ≤ 16
section
variable {W W' : World} {b g b' g' : Nat} {d d' : M.Dev}
theorem typesApart : ¬ (108 : TypeId) = 118 := by decide
theorem dev_ref (h : DevRel W b 108 d) (k : RefAt W g d') : ¬ b = g := by
  rintro rfl
  obtain ⟨_, _, _, hd, _⟩ := h
  have := Eq.trans hd.symm k
  simp only [Option.some.injEq, Obj.cells.injEq] at this
  exact typesApart this.2.1
theorem Pair.ne (h : Pair W b g d) : ¬ b = g := dev_ref h.dev h.ref
theorem Pair.lt (h : Pair W b g d) : b < W.heap.size ∧ g < W.heap.size := ⟨h.dev.lt, h.ref.lt⟩
theorem Pair.kept (h : Pair W b g d) (hb : Below W.heap.size W W') : Pair W' b g d := ⟨h.dev.kept hb, h.ref.kept hb, h.inv, h.tz, h.key⟩
theorem Pair.only {p : Nat → Prop} (h : Pair W b g d) (ho : Only p W W') (h1 : ¬ p b) (h2 : ¬ p g) : Pair W' b g d := ⟨h.dev.only ho h1, h.ref.only ho h2, h.inv, h.tz, h.key⟩
theorem DevRel.blocks {t : TypeId} (h : DevRel W b t d) (e : W'.heap[b]? = W.heap[b]?) : DevRel W' b t d := by
  obtain ⟨x, y, z, hd, hm⟩ := h
  exact ⟨x, y, z, e.trans hd, hm⟩
theorem Pair.blocks (h : Pair W b g d) (e1 : W'.heap[b]? = W.heap[b]?) (e2 : W'.heap[g]? = W.heap[g]?) : Pair W' b g d := ⟨h.dev.blocks e1, e2.trans h.ref, h.inv, h.tz, h.key⟩
end
/-- the cells of a list of pairs of pointers -/
def pairC : List (Nat × Nat) → List Value
  | [] => []
  | x :: l => .pointer (some ⟨x.1, 0, none⟩) :: .pointer (some ⟨x.2, 0, none⟩) :: pairC l
theorem pairC_length (l : List (Nat × Nat)) : (pairC l).length = l.length * 2 := by
  induction l with
  | nil => rfl
  | cons x l ih => rw [pairC, List.length_cons, List.length_cons, ih, List.length_cons]; omega
theorem pairC_append (l r : List (Nat × Nat)) : pairC (l ++ r) = pairC l ++ pairC r := by
  induction l with
  | nil => rfl
  | cons x l ih => rw [List.cons_append, pairC, ih, pairC]; rfl
theorem pairC_at (l : List (Nat × Nat)) : ∀ i (h : i < l.length), (pairC l)[2 * i]? = some (.pointer (some ⟨l[i].1, 0, none⟩)) ∧ (pairC l)[2 * i + 1]? = some (.pointer (some ⟨l[i].2, 0, none⟩)) := by
  induction l with
  | nil => intro i h; exact absurd h (by simp)
  | cons x l ih =>
    intro i h
    cases i with
    | zero => exact ⟨rfl, rfl⟩
    | succ i =>
      have := ih i (by simpa using h)
      rw [pairC, show 2 * (i + 1) = 2 * i + 1 + 1 from by omega, show 2 * i + 1 + 1 + 1 = (2 * i + 1) + 1 + 1 from rfl]
      simp only [List.getElem?_cons_succ, List.getElem_cons_succ]
      exact this
/-- the devices of a list, all apart -/
structure Pairs (W : World) (L : List (Nat × Nat)) (D : Nat → M.Dev) : Prop where
  each : ∀ i (h : i < L.length), Pair W L[i].1 L[i].2 (D i)
  apart : ∀ i j (hi : i < L.length) (hj : j < L.length), ¬ i = j → ¬ L[i].1 = L[j].1 ∧ ¬ L[i].2 = L[j].2
/-- a script is played: what lies in memory -/
structure PlayAt (W0 W : World) (v : Value) (L : List (Nat × Nat)) (D : Nat → M.Dev) : Prop where
  row : W.ownsRow W0.heap.size 91 2 v L.length (pairC L)
  pairs : Pairs W L D
  new : ∀ i (h : i < L.length), W0.heap.size ≤ L[i].1 ∧ W0.heap.size ≤ L[i].2
  low : Below W0.heap.size W0 W
section
variable {W0 W W' : World} {v : Value} {L : List (Nat × Nat)} {D : Nat → M.Dev}
theorem row_block {base : Nat} {e : TypeId} {size n : Nat} {xs : List Value} (h : W.ownsRow base e size v n xs) (hk : ∀ k c, v.ownBlock = some k → W.heap[k]? = some (.cells c e (0, 0)) → W'.heap[k]? = W.heap[k]?) : W'.ownsRow base e size v n xs := by
  refine ⟨h.1, ?_⟩
  rcases h.2 with hn | ⟨g, cap, cur, rfl, hb, hgg, rest⟩
  · exact .inl hn
  · exact .inr ⟨g, cap, cur, rfl, hb, (hk g cur rfl hgg).trans hgg, rest⟩
theorem PlayAt.kept (h : PlayAt W0 W v L D) (hb : Below W.heap.size W W') : PlayAt W0 W' v L D where
  row := row_block h.row fun k _ _ hc => hb.block k (Array.getElem?_eq_some_iff.1 hc).1
  pairs := ⟨fun i hi => (h.pairs.each i hi).kept hb, h.pairs.apart⟩
  new := h.new
  low := h.low.trans (hb.mono h.low.size)
theorem rowApart : ¬ (108 : TypeId) = 91 ∧ ¬ (118 : TypeId) = 91 := by decide
theorem dev_row {b : Nat} {d : M.Dev} {c : Array Value} (h : DevRel W b 108 d) {k : Nat} (hc : W.heap[k]? = some (.cells c 91 (0, 0))) : ¬ k = b := by
  rintro rfl
  obtain ⟨_, _, _, hd, _⟩ := h
  have := Eq.trans hd.symm hc
  simp only [Option.some.injEq, Obj.cells.injEq] at this
  exact rowApart.1 this.2.1
theorem ref_row {g : Nat} {d : M.Dev} {c : Array Value} (h : RefAt W g d) {k : Nat} (hc : W.heap[k]? = some (.cells c 91 (0, 0))) : ¬ k = g := by
  rintro rfl
  have := Eq.trans h.symm hc
  simp only [Option.some.injEq, Obj.cells.injEq] at this
  exact rowApart.2 this.2.1
/-- an event at one of the devices -/
theorem PlayAt.did (h : PlayAt W0 W v L D) {i : Nat} (hi : i < L.length) {d' : M.Dev} (hp : Pair W' L[i].1 L[i].2 d') (ho : Only (fun x => x = L[i].1 ∨ x = L[i].2) W W') : PlayAt W0 W' v L (fun k => if k = i then d' else D k) where
  row := row_block h.row fun k c _ hc => ho.block k (Array.getElem?_eq_some_iff.1 hc).1 fun hk => by
    rcases hk with hk | hk
    · exact dev_row (h.pairs.each i hi).dev hc hk
    · exact ref_row (h.pairs.each i hi).ref hc hk
  pairs := ⟨fun j hj => by
    by_cases e : j = i
    · subst e
      rw [if_pos rfl]
      exact hp
    · rw [if_neg e]
      have a := h.pairs.apart j i hj hi e
      refine (h.pairs.each j hj).only ho ?_ ?_
      · rintro (k | k)
        · exact a.1 k
        · exact dev_ref (h.pairs.each j hj).dev (h.pairs.each i hi).ref k
      · rintro (k | k)
        · exact dev_ref (h.pairs.each i hi).dev (h.pairs.each j hj).ref k.symm
        · exact a.2 k, h.pairs.apart⟩
  new := h.new
  low := h.low.trans (ho.below h.low.size fun k hk => by
    rcases hk with rfl | rfl
    · exact (h.new i hi).1
    · exact (h.new i hi).2)
/-- one device more -/
theorem PlayAt.add (h : PlayAt W0 W v L D) {X : World} (hb : Below W.heap.size W X) {b g : Nat} {d : M.Dev} (hp : Pair X b g d) (hb1 : W.heap.size ≤ b) (hg1 : W.heap.size ≤ g) {v' : Value} {o : Obj}
    (hown : W'.ownsRow W0.heap.size 91 2 v' (L.length + 1) (pairC L ++ [.pointer (some ⟨b, 0, none⟩), .pointer (some ⟨g, 0, none⟩)])) (hgr : (X.alloc o).grownBy W' v.ownBlock) : PlayAt W0 W' v' (L ++ [(b, g)]) (fun k => if k = L.length then d else D k) := by
  have hX := h.kept hb
  have hsz := hb.size
  have hlow := h.low.size
  have same : ∀ (k : Nat) (c : Array Value) (t : TypeId), X.heap[k]? = some (Obj.cells c t (0, 0)) → ¬ t = 91 → W'.heap[k]? = X.heap[k]? := by
    intro k c t hc ht
    have hk := (Array.getElem?_eq_some_iff.1 hc).1
    rw [hgr.block k (by simp; omega) ?_]
    · exact ((Below.refl X.heap.size X).alloc (Nat.le_refl _) o).block k hk
    · intro e
      rcases hX.row.2 with ⟨hv, _⟩ | ⟨q, cap, cur, hv, _, hq, _⟩
      · rw [hv] at e; exact absurd e (by simp [Value.ownBlock])
      · rw [hv] at e
        simp only [Value.ownBlock, Option.some.injEq] at e
        subst e
        rw [hc] at hq
        simp only [Option.some.injEq, Obj.cells.injEq] at hq
        exact ht hq.2.1
  have pk : ∀ {b g : Nat} {d : M.Dev}, Pair X b g d → Pair W' b g d := by
    intro b g d hp
    obtain ⟨x, y, z, hd, hm⟩ := hp.dev
    exact hp.blocks (same _ _ _ hd rowApart.1) (same _ _ _ hp.ref rowApart.2)
  refine ⟨?_, ⟨?_, ?_⟩, ?_, ?_⟩
  · rw [List.length_append, pairC_append]
    exact hown
  · intro i hi
    by_cases e : i < L.length
    · rw [List.getElem_append_left e, if_neg (by omega)]
      exact pk (hX.pairs.each i e)
    · have e' : i = L.length := by simp at hi; omega
      subst e'
      rw [if_pos rfl, List.getElem_append_right (by omega)]
      simp
      exact pk hp
  · intro i j hi hj hne
    have old : ∀ k (hk : k < L.length), L[k].1 < W.heap.size ∧ L[k].2 < W.heap.size := fun k hk => (h.pairs.each k hk).lt
    by_cases e : i < L.length
    · rw [List.getElem_append_left e]
      by_cases f : j < L.length
      · rw [List.getElem_append_left f]
        exact h.pairs.apart i j e f hne
      · have := old i e
        rw [List.getElem_append_right (by omega)]
        simp
        omega
    · by_cases f : j < L.length
      · have := old j f
        rw [List.getElem_append_left f, List.getElem_append_right (by omega)]
        simp
        omega
      · simp at hi hj
        omega
  · intro i hi
    by_cases e : i < L.length
    · rw [List.getElem_append_left e]
      exact h.new i e
    · rw [List.getElem_append_right (by omega)]
      simp
      omega
  · exact ((hX.low).alloc (by have := hX.low.size; omega) _).grown hgr (by simp; have := hX.low.size; omega) fun k hk => (hX.row.lt k hk).1
end
end Go.Proofs.YtjfmiomopfjecabGreat

/- The laws' own small functions: two devices side by side. -/
namespace Go.Proofs.YtjfmiomopfjecabGreat
open Go.RowKit Go.Lib

theorem lawPick_any (c : Int) (n : Nat) (w : World) (h0 : -9223372036854775808 ≤ c) (h1 : c ≤ 9223372036854775807) (hn : 1 ≤ n) (hn2 : n ≤ 2000000000000) :
    Calls Tryz.prog 49 #[.int .i64 c, .int .i64 n] w fun e w' => e = .returned (.int .i64 (M.pk c n)) ∧ w = w' := by
  by_cases hc : c < 0
  · have HE : Hid ((M.pk c n : Int) = -(c + 1) % (n : Int)) := by
      show ((M.pk c n : Nat) : Int) = _
      unfold M.pk
      rw [if_pos hc, Int.toNat_of_nonneg (Int.emod_nonneg _ (by omega))]
    go_enter Tryz.func49, Tryz.ntmps49
    go_wp2
    go_ret
    exact ⟨ret_int (by rw [HE.out, ← Int.neg_tmod, Int.tmod_eq_emod_of_nonneg (by omega)]), rfl⟩
  · have HE : Hid ((M.pk c n : Int) = c % (n : Int)) := by
      show ((M.pk c n : Nat) : Int) = _
      unfold M.pk
      rw [if_neg hc, Int.toNat_of_nonneg (Int.emod_nonneg _ (by omega))]
    go_enter Tryz.func49, Tryz.ntmps49
    go_wp2
    go_ret
    exact ⟨ret_int HE.out.symm, rfl⟩
abbrev pairV (b g : Nat) : Value := .agg #[.pointer (some ⟨b, 0, none⟩), .pointer (some ⟨g, 0, none⟩)]
section
variable {W : World} {b g : Nat} {d : M.Dev}
set_option maxRecDepth 10000 in
set_option maxHeartbeats 1000000 in
theorem tells_any (h : Pair W b g d) :
    Calls Tryz.prog 51 #[pairV b g] W fun e w' => e = .returned (.bool true) ∧ Below W.heap.size W w' := by
  have hl := h.lt
  have HP := hide h
  have HS := hide (fun (X : World) (hX : Pair X b g d) => slotsStatus_any h.inv hX.dev)
  have HT := hide (fun (X : World) (hX : Pair X b g d) => refStatus_any h.inv hX.ref)
  obtain ⟨sb, i1, i2, i3, i4, i5, i6, e⟩ := statOf_shape d
  rw [e] at HS HT
  clear e h
  have hbb : (sb == sb) = true := by simp
  go_enter Tryz.func51, Tryz.ntmps51
  go_wp2_with fail
  refine (unhide HS _ ((unhide HP).kept ((Below.refl _ _).alloc (Nat.le_refl _) _))).mono ?_
  rintro e w1 ⟨rfl, hb1⟩
  have HP1 := hide (((unhide HP).kept ((Below.refl _ _).alloc (Nat.le_refl _) _)).kept hb1)
  obtain ⟨k1, hs1, hb⟩ := blk1 hb1
  obtain ⟨hx1, hf1⟩ := block_facts k1
  have HK1 := hide k1
  have HB := hide hb
  clear hb hb1 k1
  have l1 : W.heap.size < w1.heap.size := (by omega); have n1 : ¬ W.heap.size = w1.heap.size := (by omega)
  go_wp2_with fail
  refine (unhide HT _ ((unhide HP1).kept ((Below.refl _ _).alloc (Nat.le_refl _) _))).mono ?_
  rintro e w2 ⟨rfl, hb2⟩
  obtain ⟨k2, hs2, hb3⟩ := blk1 hb2
  obtain ⟨hx2, hf2⟩ := block_facts k2
  have HB2 := hide ((unhide HB).trans (hb3.mono (by omega)))
  clear hb2 hb3 k2 HP1 HK1 HB
  have HB := HB2
  clear HB2
  have l2 : w1.heap.size < w2.heap.size := (by omega); have n2 : ¬ w1.heap.size = w2.heap.size := (by omega)
  go_wp2
  go_ret
  refine ⟨rfl, ?_⟩
  repeat (first | with_reducible exact unhide HB | with_reducible exact Below.refl _ _ | with_reducible refine bdrew ?_ | (with_reducible refine brow ?_ ?_; (focus (first | omega | (simp; done) | (simp; omega)))) | (with_reducible refine bset ?_ ?_; (focus (first | omega | (simp; done) | (simp; omega)))) | (with_reducible refine balloc ?_ ?_; (focus (first | omega | (simp; done) | (simp; omega)))) | (with_reducible refine bvia (unhide HB1) ?_ ?_; (focus (first | omega | (simp; done) | (simp; omega)))) | (with_reducible refine bvia (unhide HB2) ?_ ?_; (focus (first | omega | (simp; done) | (simp; omega)))) | (with_reducible refine bvia (unhide HB3) ?_ ?_; (focus (first | omega | (simp; done) | (simp; omega)))) | (with_reducible refine bvia (unhide HB4) ?_ ?_; (focus (first | omega | (simp; done) | (simp; omega)))) | (with_reducible refine bvia (unhide HB5) ?_ ?_; (focus (first | omega | (simp; done) | (simp; omega)))) | (with_reducible refine bvia (unhide HB6) ?_ ?_; (focus (first | omega | (simp; done) | (simp; omega)))))
set_option maxRecDepth 10000 in
set_option maxHeartbeats 1000000 in
theorem looks_any (h : Pair W b g d) :
    Calls Tryz.prog 52 #[pairV b g] W fun e w' => e = .returned (.bool true) ∧ Below W.heap.size W w' := by
  have hl := h.lt
  have HP := hide h
  have HT := hide (fun (X : World) (hX : Pair X b g d) => tells_any hX)
  have HG := hide (fun (X : World) (hX : Pair X b g d) (i : Int) => slotsPage_any h.inv.2.1.bytes hX.dev i)
  have HR := hide (fun (X : World) (hX : Pair X b g d) (i : Int) => refPage_any hX.ref h.inv.2.1.bytes i)
  clear h
  go_enter Tryz.func52, Tryz.ntmps52
  go_wp2_with fail
  refine (unhide HT _ ((unhide HP).kept ((Below.refl _ _).alloc (Nat.le_refl _) _))).mono ?_
  rintro e w1 ⟨rfl, hb1⟩
  have HP1 := hide (((unhide HP).kept ((Below.refl _ _).alloc (Nat.le_refl _) _)).kept hb1)
  obtain ⟨k1, hs1, hb⟩ := blk1 hb1
  obtain ⟨hx1, hf1⟩ := block_facts k1
  have HB := hide hb
  clear hb hb1 k1
  have l1 : W.heap.size < w1.heap.size := (by omega); have n1 : ¬ W.heap.size = w1.heap.size := (by omega)
  go_wp2_with fail
  go_loopw [4] (fun i wr => ∃ k : Nat, k ≤ 25 ∧ i = .int .i64 ((k : Int) - 1) ∧ wr = w1) (fun i _ => (24 - intOf i).toNat)
  case atStart => exact ⟨0, by omega, rfl, rfl⟩
  case round =>
    obtain ⟨k, hk, rfl, rfl⟩ := hrel
    by_cases hlt : k < 25
    · have hq : (k : Int) - 1 ≤ 23 := by omega
      go_wp2_with fail
      refine (unhide HG _ (unhide HP1) _).mono ?_
      rintro e _ ⟨rfl, rfl⟩
      generalize hT : pageT d.F ((k : Int) - 1) = T at *
      have HPT := hide hT
      clear hT
      go_wp2_with fail
      refine (unhide HR _ (unhide HP1) _).mono ?_
      rintro e _ ⟨rfl, rfl⟩
      rw [HPT.out]
      go_wp2
      go_roundw
      case rel => exact ⟨k + 1, by omega, by go_num, by first | rfl | trivial⟩
      case measure => simp [intOf]; omega
    · have hq : ¬ (k : Int) - 1 ≤ 23 := by omega
      go_wp2
      go_ret
      exact ⟨rfl, unhide HB⟩
end
end Go.Proofs.YtjfmiomopfjecabGreat

/- The laws' event at two devices side by side. -/
namespace Go.Proofs.YtjfmiomopfjecabGreat
open Go.RowKit Go.Lib

section
variable {W : World} {b g : Nat} {d : M.Dev}
set_option maxRecDepth 10000 in
set_option maxHeartbeats 2000000 in
theorem done_cut (h : Pair W b g d) (kd n : Int) (tx : ByteArray) (cut torn : Int) (ht : tx.size ≤ maxLen) :
    Calls Tryz.prog 48 #[pairV b g, .agg #[.int .i64 kd, .int .i64 n, .string tx, .int .i64 cut, .int .i64 torn], .bool false] W fun e w' => e = .returned (.bool true) ∧ Pair w' b g (M.doM d ⟨kd, n, tx, cut, torn⟩).1 ∧ Only (fun x => x = b ∨ x = g) W w' := by
  have hl1 := h.lt.1
  have hl2 := h.lt.2
  have hne := h.ne
  have hinv := M.inv_do h.inv ⟨kd, n, tx, cut, torn⟩
  have htz := M.tz_do h.inv h.tz ⟨kd, n, tx, cut, torn⟩
  have hkey : (M.doM d ⟨kd, n, tx, cut, torn⟩).1.key.size ≤ 16 := by rw [show (M.doM d ⟨kd, n, tx, cut, torn⟩).1.key = d.key from by unfold M.doM; split <;> rfl]; exact h.key
  have HD : Hid (∀ X : World, DevRel X b 108 d → Calls Tryz.prog 57 #[.pointer (some ⟨b, 0, none⟩), .agg #[.int .i64 kd, .int .i64 n, .string tx, .int .i64 (cut), .int .i64 torn]] X fun y w' => Played X b 108 d ⟨kd, n, tx, cut, torn⟩ y w') := fun X hX => slotsDo_any h.inv h.tz h.key ⟨kd, n, tx, cut, torn⟩ ht hX
  have HR : Hid (∀ X : World, RefAt X g d → Calls Tryz.prog 65 #[.pointer (some ⟨g, 0, none⟩), .agg #[.int .i64 kd, .int .i64 n, .string tx, .int .i64 (cut), .int .i64 torn]] X fun y w' => y = .returned (rpV (M.doM d ⟨kd, n, tx, cut, torn⟩).2) ∧ RefAt w' g (M.doM d ⟨kd, n, tx, cut, torn⟩).1 ∧ Only (· = g) X w') := fun X hX => refDo_any h.inv h.key hX ⟨kd, n, tx, cut, torn⟩ ht (planned_few d _)
  have HP := hide h
  unfold Played at HD
  generalize (M.doM d ⟨kd, n, tx, cut, torn⟩).1 = d' at *
  generalize (M.doM d ⟨kd, n, tx, cut, torn⟩).2 = rp at *
  obtain ⟨er, vr, ta, ak⟩ := rp
  unfold rpV repV at HD HR
  dsimp only at HD HR
  clear h ht
  go_enter Tryz.func48, Tryz.ntmps48
  go_wp2_with fail
  refine (unhide HD _ ((unhide HP).dev.kept (((Below.refl _ _).alloc (Nat.le_refl _) _).alloc (by simp) _))).mono ?_
  rintro e w1 ⟨rfl, hd1, ho1⟩
  have kp := (ho1.block W.heap.size (by simp; omega) (by omega)).trans (first_block W _ _)
  have ke := (ho1.block (W.heap.size + 1) (by simp) (by omega)).trans (second_block W _ _)
  have HRF1 := hide (((unhide HP).ref.kept (((Below.refl _ _).alloc (Nat.le_refl _) _).alloc (by simp) _)).only ho1 (fun e => hne e.symm))
  have HD1 := hide hd1
  have HO1 := hide ((Only.of (p := (· = b)) (((Below.refl W.heap.size W).alloc (Nat.le_refl _) _).alloc (by simp) _)).trans ho1)
  obtain ⟨hxp, hfp⟩ := block_facts kp
  obtain ⟨hxe, hfe⟩ := block_facts ke
  have l2 : W.heap.size + 1 < w1.heap.size := (Array.getElem?_eq_some_iff.1 ke).1
  have l1 : W.heap.size < w1.heap.size := by omega
  have n2 : ¬ W.heap.size + 1 = w1.heap.size := by omega
  have n1 : ¬ W.heap.size = w1.heap.size := by omega
  clear kp ke hd1 ho1 HD HP
  go_wp2_with fail
  refine (unhide HR _ ((unhide HRF1).kept ((Below.refl _ _).alloc (Nat.le_refl _) _))).mono ?_
  rintro e w2 ⟨rfl, hr2, ho2⟩
  have hng : ¬ w1.heap.size = g := by omega
  have kq := (ho2.block w1.heap.size (by simp) hng).trans (last_block w1 _ rfl)
  obtain ⟨hxq, hfq⟩ := block_facts kq
  have HD2 := hide (((unhide HD1).kept ((Below.refl _ _).alloc (Nat.le_refl _) _)).only ho2 hne)
  have HRF2 := hide hr2
  have HO2 : Hid (Only (fun x => x = b ∨ x = g) W w2) := ((unhide HO1).mono fun _ e => Or.inl e).trans ((Only.of ((Below.refl _ _).alloc (Nat.le_refl _) _)).trans (ho2.mono fun _ e => Or.inr e))
  have l3 : w1.heap.size < w2.heap.size := (Array.getElem?_eq_some_iff.1 kq).1
  have n3 : ¬ w1.heap.size = w2.heap.size := by omega
  clear kq hr2 ho2 HR HRF1 HD1 HO1 hxp hfp hxe hfe
  go_wp2_with fail
  go_quiet ((go_at_call 63; exact Calls.quiet_of_same ((num_any _ _).mono fun e w' hh => ⟨hh.1, hh.2.symm⟩)))
  go_wp2
  go_ret
  refine ⟨rfl, ⟨?_, ?_, hinv, htz, hkey⟩, ?_⟩
  · exact DevRel.kept (unhide HD2) (below_drewN ((Below.refl _ _).alloc (Nat.le_refl _) _) _)
  · exact RefAt.kept (unhide HRF2) (below_drewN ((Below.refl _ _).alloc (Nat.le_refl _) _) _)
  · exact (unhide HO2).trans (Only.of (below_drewN ((Below.refl _ _).alloc (Nat.le_refl _) _) _))
set_option maxRecDepth 10000 in
set_option maxHeartbeats 2000000 in
theorem done_whole (h : Pair W b g d) (kd n : Int) (tx : ByteArray) (cut torn : Int) (ht : tx.size ≤ maxLen) :
    Calls Tryz.prog 48 #[pairV b g, .agg #[.int .i64 kd, .int .i64 n, .string tx, .int .i64 cut, .int .i64 torn], .bool true] W fun e w' => e = .returned (.bool true) ∧ Pair w' b g (M.doM d ⟨kd, n, tx, -1, torn⟩).1 ∧ Only (fun x => x = b ∨ x = g) W w' := by
  have hl1 := h.lt.1
  have hl2 := h.lt.2
  have hne := h.ne
  have hinv := M.inv_do h.inv ⟨kd, n, tx, -1, torn⟩
  have htz := M.tz_do h.inv h.tz ⟨kd, n, tx, -1, torn⟩
  have hkey : (M.doM d ⟨kd, n, tx, -1, torn⟩).1.key.size ≤ 16 := by rw [show (M.doM d ⟨kd, n, tx, -1, torn⟩).1.key = d.key from by unfold M.doM; split <;> rfl]; exact h.key
  have HD : Hid (∀ X : World, DevRel X b 108 d → Calls Tryz.prog 57 #[.pointer (some ⟨b, 0, none⟩), .agg #[.int .i64 kd, .int .i64 n, .string tx, .int .i64 (-1), .int .i64 torn]] X fun y w' => Played X b 108 d ⟨kd, n, tx, -1, torn⟩ y w') := fun X hX => slotsDo_any h.inv h.tz h.key ⟨kd, n, tx, -1, torn⟩ ht hX
  have HR : Hid (∀ X : World, RefAt X g d → Calls Tryz.prog 65 #[.pointer (some ⟨g, 0, none⟩), .agg #[.int .i64 kd, .int .i64 n, .string tx, .int .i64 (-1), .int .i64 torn]] X fun y w' => y = .returned (rpV (M.doM d ⟨kd, n, tx, -1, torn⟩).2) ∧ RefAt w' g (M.doM d ⟨kd, n, tx, -1, torn⟩).1 ∧ Only (· = g) X w') := fun X hX => refDo_any h.inv h.key hX ⟨kd, n, tx, -1, torn⟩ ht (planned_few d _)
  have HP := hide h
  unfold Played at HD
  generalize (M.doM d ⟨kd, n, tx, -1, torn⟩).1 = d' at *
  generalize (M.doM d ⟨kd, n, tx, -1, torn⟩).2 = rp at *
  obtain ⟨er, vr, ta, ak⟩ := rp
  unfold rpV repV at HD HR
  dsimp only at HD HR
  clear h ht
  go_enter Tryz.func48, Tryz.ntmps48
  go_wp2_with fail
  refine (unhide HD _ ((unhide HP).dev.kept (((Below.refl _ _).alloc (Nat.le_refl _) _).alloc (by simp) _))).mono ?_
  rintro e w1 ⟨rfl, hd1, ho1⟩
  have kp := (ho1.block W.heap.size (by simp; omega) (by omega)).trans (first_block W _ _)
  have ke := (ho1.block (W.heap.size + 1) (by simp) (by omega)).trans (second_block W _ _)
  have HRF1 := hide (((unhide HP).ref.kept (((Below.refl _ _).alloc (Nat.le_refl _) _).alloc (by simp) _)).only ho1 (fun e => hne e.symm))
  have HD1 := hide hd1
  have HO1 := hide ((Only.of (p := (· = b)) (((Below.refl W.heap.size W).alloc (Nat.le_refl _) _).alloc (by simp) _)).trans ho1)
  obtain ⟨hxp, hfp⟩ := block_facts kp
  obtain ⟨hxe, hfe⟩ := block_facts ke
  have l2 : W.heap.size + 1 < w1.heap.size := (Array.getElem?_eq_some_iff.1 ke).1
  have l1 : W.heap.size < w1.heap.size := by omega
  have n2 : ¬ W.heap.size + 1 = w1.heap.size := by omega
  have n1 : ¬ W.heap.size = w1.heap.size := by omega
  clear kp ke hd1 ho1 HD HP
  go_wp2_with fail
  refine (unhide HR _ ((unhide HRF1).kept ((Below.refl _ _).alloc (Nat.le_refl _) _))).mono ?_
  rintro e w2 ⟨rfl, hr2, ho2⟩
  have hng : ¬ w1.heap.size = g := by omega
  have kq := (ho2.block w1.heap.size (by simp) hng).trans (last_block w1 _ rfl)
  obtain ⟨hxq, hfq⟩ := block_facts kq
  have HD2 := hide (((unhide HD1).kept ((Below.refl _ _).alloc (Nat.le_refl _) _)).only ho2 hne)
  have HRF2 := hide hr2
  have HO2 : Hid (Only (fun x => x = b ∨ x = g) W w2) := ((unhide HO1).mono fun _ e => Or.inl e).trans ((Only.of ((Below.refl _ _).alloc (Nat.le_refl _) _)).trans (ho2.mono fun _ e => Or.inr e))
  have l3 : w1.heap.size < w2.heap.size := (Array.getElem?_eq_some_iff.1 kq).1
  have n3 : ¬ w1.heap.size = w2.heap.size := by omega
  clear kq hr2 ho2 HR HRF1 HD1 HO1 hxp hfp hxe hfe
  go_wp2_with fail
  go_quiet ((go_at_call 63; exact Calls.quiet_of_same ((num_any _ _).mono fun e w' hh => ⟨hh.1, hh.2.symm⟩)))
  go_wp2
  go_ret
  refine ⟨rfl, ⟨?_, ?_, hinv, htz, hkey⟩, ?_⟩
  · exact DevRel.kept (unhide HD2) (below_drewN ((Below.refl _ _).alloc (Nat.le_refl _) _) _)
  · exact RefAt.kept (unhide HRF2) (below_drewN ((Below.refl _ _).alloc (Nat.le_refl _) _) _)
  · exact (unhide HO2).trans (Only.of (below_drewN ((Below.refl _ _).alloc (Nat.le_refl _) _) _))
/-- an event at both -/
theorem done_any (h : Pair W b g d) (kd n : Int) (tx : ByteArray) (cut torn : Int) (ht : tx.size ≤ maxLen) (whole : Bool) :
    Calls Tryz.prog 48 #[pairV b g, .agg #[.int .i64 kd, .int .i64 n, .string tx, .int .i64 cut, .int .i64 torn], .bool whole] W fun e w' => e = .returned (.bool true) ∧ (∃ d', Pair w' b g d') ∧ Only (fun x => x = b ∨ x = g) W w' := by
  cases whole
  · exact (done_cut h kd n tx cut torn ht).mono fun e w' ⟨h1, h2, h3⟩ => ⟨h1, ⟨_, h2⟩, h3⟩
  · exact (done_whole h kd n tx cut torn ht).mono fun e w' ⟨h1, h2, h3⟩ => ⟨h1, ⟨_, h2⟩, h3⟩
end
end Go.Proofs.YtjfmiomopfjecabGreat

/- The laws' new devices, side by side. -/
namespace Go.Proofs.YtjfmiomopfjecabGreat
open Go.RowKit Go.Lib

theorem new_tz (key image : ByteArray) (version : Nat) : M.Tz (M.newD key image version).F := fun _ => by
  show M.fld (M.newF image version) 3 = 0
  rw [M.newF_fld]
  exact M.newF_nought (by omega) (by omega) (by omega) (by omega) (by omega) (by omega)
set_option maxRecDepth 10000 in
set_option maxHeartbeats 1000000 in
theorem made_ok (key image : ByteArray) (version : Nat) (W : World) (hk : key.size ≤ 16) (hi : M.isImage image = true) (hv : version ≤ 65535) :
    Calls Tryz.prog 47 #[.string key, .string image, .int .i64 version] W fun e w' => ∃ b g, e = .returned (.tuple #[pairV b g, .bool true]) ∧ Pair w' b g (M.newD key image version) ∧ W.heap.size ≤ b ∧ W.heap.size ≤ g ∧ Below W.heap.size W w' := by
  have HN := hide (fun X => slotsNew_ok key image version X hk hi hv)
  have HR := hide (fun X => refNew_ok key image version X hk hi hv)
  have HI := hide (M.new_good (key := key) hi hv)
  have HZ := hide (new_tz key image version)
  have HK : Hid ((M.newD key image version).key.size ≤ 16) := hk
  clear hk hi hv
  go_enter Tryz.func47, Tryz.ntmps47
  go_wp2_with fail
  refine (unhide HN _).mono ?_
  rintro e w1 ⟨b, rfl, hbb, hd, hb1⟩
  have HD : Hid (DevRel w1 b 108 (M.newD key image version)) := ⟨0, 1, 0, hd, fun _ => ⟨rfl, rfl, rfl⟩⟩
  have hbl := hd.lt
  obtain ⟨k1, hs1, hb⟩ := blk1 hb1
  have HB1 := hide hb
  have HK1 := hide k1
  have hbw : W.heap.size < b := by simp at hbb; omega
  clear hb hb1 hd k1 hbb
  go_wp2_with fail
  refine (unhide HR _).mono ?_
  rintro e w2 ⟨g, rfl, hgg, hr, hb2⟩
  have HD2 := hide ((unhide HD).kept hb2)
  have HRF := hide hr
  have k2 := kept_block hb2 (unhide HK1)
  have HK2 := hide k2
  obtain ⟨hx2, hf2⟩ := block_facts k2
  have HB := hide ((unhide HB1).trans (hb2.mono (unhide HB1).size))
  have hgl := hr.lt
  have hbl2 := (unhide HD2).lt
  have lw : W.heap.size < w2.heap.size := (Array.getElem?_eq_some_iff.1 k2).1
  have hgw : W.heap.size < g := by omega
  have nb : ¬ W.heap.size = b := by omega
  have ng : ¬ W.heap.size = g := by omega
  clear hb2 hr k2 HD HK1
  go_wp2_with fail
  refine (num_any _ _).mono ?_
  rintro e _ ⟨rfl, rfl⟩
  go_wp2
  refine bodyPost_ret (v := .tuple #[pairV b g, .bool true]) (by simp [results, Tryz.results47, go_sem, hx2]) rfl ⟨b, g, rfl, ⟨?_, ?_, unhide HI, unhide HZ, unhide HK⟩, by omega, by omega, ?_⟩
  · obtain ⟨x, y, z, hd, hm⟩ := unhide HD2
    refine ⟨x, y, z, ?_, hm⟩
    unfold DevAt at hd ⊢
    have KD := hide hd
    repeat (first | with_reducible exact unhide KD | (with_reducible refine lblk ?_; (focus (first | rfl | (simp; done)))) | with_reducible refine ablk ?_ | with_reducible refine drew_block ?_ | (with_reducible refine sblk ?_ ?_; (focus (first | omega | (simp; done) | (simp; omega)))))
  · have hr := unhide HRF
    unfold RefAt at hr ⊢
    have KR := hide hr
    repeat (first | with_reducible exact unhide KR | (with_reducible refine lblk ?_; (focus (first | rfl | (simp; done)))) | with_reducible refine ablk ?_ | with_reducible refine drew_block ?_ | (with_reducible refine sblk ?_ ?_; (focus (first | omega | (simp; done) | (simp; omega)))))
  · repeat (first | with_reducible exact unhide HB | with_reducible exact Below.refl _ _ | with_reducible refine bdrew ?_ | (with_reducible refine brow ?_ ?_; (focus (first | omega | (simp; done) | (simp; omega)))) | (with_reducible refine bset ?_ ?_; (focus (first | omega | (simp; done) | (simp; omega)))) | (with_reducible refine balloc ?_ ?_; (focus (first | omega | (simp; done) | (simp; omega)))) | (with_reducible refine bvia (unhide HB1) ?_ ?_; (focus (first | omega | (simp; done) | (simp; omega)))) | (with_reducible refine bvia (unhide HB2) ?_ ?_; (focus (first | omega | (simp; done) | (simp; omega)))) | (with_reducible refine bvia (unhide HB3) ?_ ?_; (focus (first | omega | (simp; done) | (simp; omega)))) | (with_reducible refine bvia (unhide HB4) ?_ ?_; (focus (first | omega | (simp; done) | (simp; omega)))) | (with_reducible refine bvia (unhide HB5) ?_ ?_; (focus (first | omega | (simp; done) | (simp; omega)))) | (with_reducible refine bvia (unhide HB6) ?_ ?_; (focus (first | omega | (simp; done) | (simp; omega)))))
set_option maxRecDepth 10000 in
set_option maxHeartbeats 1000000 in
theorem made_no (key image : ByteArray) (version : Int) (W : World) (his : image.size ≤ maxLen) (h : newNum key image version ≠ 0) :
    Calls Tryz.prog 47 #[.string key, .string image, .int .i64 version] W fun e w' => e = .returned (.tuple #[.agg #[.pointer none, .pointer none], .bool true]) ∧ Below W.heap.size W w' := by
  have HN := hide (fun X => slotsNew_no key image version X his h)
  have HR := hide (fun X => refNew_no key image version X his h)
  clear his h
  generalize newNum key image version = nn at *
  go_enter Tryz.func47, Tryz.ntmps47
  go_wp2_with fail
  refine (unhide HN _).mono ?_
  rintro e w1 ⟨rfl, hb1⟩
  obtain ⟨k1, hs1, hb⟩ := blk1 hb1
  obtain ⟨hx1, hf1⟩ := block_facts k1
  have HB := hide hb
  clear hb hb1 k1
  have l1 : W.heap.size < w1.heap.size := (by omega); have n1 : ¬ W.heap.size = w1.heap.size := (by omega)
  go_wp2_with fail
  refine (unhide HR _).mono ?_
  rintro e _ ⟨rfl, rfl⟩
  go_wp2_with fail
  refine (num_any _ _).mono ?_
  rintro e _ ⟨rfl, rfl⟩
  have hnn : (nn == nn) = true := by simp
  go_wp2
  refine bodyPost_ret (v := .tuple #[.agg #[.pointer none, .pointer none], .bool true]) (by simp [results, Tryz.results47, go_sem, hx1]) rfl ⟨rfl, ?_⟩
  repeat (first | with_reducible exact unhide HB | with_reducible exact Below.refl _ _ | with_reducible refine bdrew ?_ | (with_reducible refine brow ?_ ?_; (focus (first | omega | (simp; done) | (simp; omega)))) | (with_reducible refine bset ?_ ?_; (focus (first | omega | (simp; done) | (simp; omega)))) | (with_reducible refine balloc ?_ ?_; (focus (first | omega | (simp; done) | (simp; omega)))) | (with_reducible refine bvia (unhide HB1) ?_ ?_; (focus (first | omega | (simp; done) | (simp; omega)))) | (with_reducible refine bvia (unhide HB2) ?_ ?_; (focus (first | omega | (simp; done) | (simp; omega)))) | (with_reducible refine bvia (unhide HB3) ?_ ?_; (focus (first | omega | (simp; done) | (simp; omega)))) | (with_reducible refine bvia (unhide HB4) ?_ ?_; (focus (first | omega | (simp; done) | (simp; omega)))) | (with_reducible refine bvia (unhide HB5) ?_ ?_; (focus (first | omega | (simp; done) | (simp; omega)))) | (with_reducible refine bvia (unhide HB6) ?_ ?_; (focus (first | omega | (simp; done) | (simp; omega)))))
theorem newNum_ok {key image : ByteArray} {version : Int} (h : newNum key image version = 0) : key.size ≤ 16 ∧ M.isImage image = true ∧ 0 ≤ version ∧ version ≤ 65535 := by
  unfold newNum at h
  by_cases hk : 16 < key.size
  · rw [if_pos hk] at h; exact absurd h (by decide)
  · rw [if_neg hk] at h
    cases hi : M.isImage image
    · rw [hi, if_pos rfl] at h; exact absurd h (by decide)
    · rw [hi, if_neg (by simp)] at h
      by_cases hv : version < 0 ∨ 65535 < version
      · rw [if_pos hv] at h; exact absurd h (by decide)
      · exact ⟨by omega, rfl, by omega, by omega⟩
end Go.Proofs.YtjfmiomopfjecabGreat

/- The device of the document's examples. -/
namespace Go.Proofs.YtjfmiomopfjecabGreat
open Go.RowKit Go.Lib

abbrev exKey : ByteArray := ⟨#[107, 101, 121]⟩
abbrev exImg : ByteArray := ⟨#[77, 1, 1, 1, 1, 0, 0, 1]⟩
theorem ex_image : M.isImage exImg = true := by decide +kernel
theorem ex_does : (M.doM (M.newD exKey exImg 7) ⟨4, 0, ⟨#[0, 21]⟩, -1, 0⟩).2 = ⟨0, 7, ⟨#[0, 42]⟩, -1⟩ := by kernel_rfl
set_option maxRecDepth 10000 in
set_option maxHeartbeats 1000000 in
theorem begins_any (W : World) : Calls Tryz.prog 46 #[] W fun e w' => e = .returned (.bool true) ∧ Below W.heap.size W w' := by
  have HM := hide (fun X => made_ok exKey exImg 7 X (by decide) ex_image (by omega))
  have HL := hide (fun (X : World) (b g : Nat) (hX : Pair X b g (M.newD exKey exImg 7)) => looks_any hX)
  have HD : Hid (∀ (X : World) (b g : Nat), Pair X b g (M.newD exKey exImg 7) → Calls Tryz.prog 57 #[.pointer (some ⟨b, 0, none⟩), .agg #[.int .i64 4, .int .i64 0, .string ⟨#[0, 21]⟩, .int .i64 (-1), .int .i64 0]] X fun y w' => y = .returned (.agg #[.int .i64 0, .int .i64 7, .string ⟨#[0, 42]⟩, .int .i64 (-1)]) ∧ Only (· = b) X w') := fun X b g hX => (slotsDo_any hX.inv hX.tz hX.key ⟨4, 0, ⟨#[0, 21]⟩, -1, 0⟩ (by decide) hX.dev).mono fun y w' ⟨h1, _, h3⟩ => by
    rw [ex_does] at h1
    exact ⟨h1, h3⟩
  go_enter Tryz.func46, Tryz.ntmps46
  go_wp2_with fail
  refine (unhide HM _).mono ?_
  rintro e w1 ⟨b, g, rfl, hp, hbb, hgg, hb1⟩
  have HP := hide hp
  have HB1 := hide hb1
  have hbl := hp.lt
  clear hp hb1 HM
  generalize M.newD exKey exImg 7 = d at *
  go_wp2_with fail
  refine (unhide HL _ b g ((unhide HP).kept ((Below.refl _ _).alloc (Nat.le_refl _) _))).mono ?_
  rintro e w2 ⟨rfl, hb2⟩
  have HP2 := hide (((unhide HP).kept ((Below.refl _ _).alloc (Nat.le_refl _) _)).kept hb2)
  obtain ⟨k2, hs2, hb3⟩ := blk1 hb2
  obtain ⟨hx2, hf2⟩ := block_facts k2
  have hsz1 := (unhide HB1).size
  have HB2 := hide ((unhide HB1).trans (hb3.mono hsz1))
  have hsz2 := (unhide HB2).size
  clear hb2 hb3 k2 HB1 HP HL
  go_wp2_with fail
  refine (unhide HD _ b g (unhide HP2)).mono ?_
  rintro e w3 ⟨rfl, ho3⟩
  have HB := hide ((unhide HB2).trans (ho3.below hsz2 fun k hk => Nat.le_trans hbb (Nat.le_of_eq hk.symm)))
  have hs3 := (unhide HB).size
  clear ho3 HD HP2 HB2 hx2 hf2
  go_wp2_with fail
  refine (num_any _ _).mono ?_
  rintro e _ ⟨rfl, rfl⟩
  go_wp2
  go_ret
  refine ⟨rfl, ?_⟩
  repeat (first | with_reducible exact unhide HB | with_reducible exact Below.refl _ _ | with_reducible refine bdrew ?_ | (with_reducible refine brow ?_ ?_; (focus (first | omega | (simp; done) | (simp; omega)))) | (with_reducible refine bset ?_ ?_; (focus (first | omega | (simp; done) | (simp; omega)))) | (with_reducible refine balloc ?_ ?_; (focus (first | omega | (simp; done) | (simp; omega)))) | (with_reducible refine bvia (unhide HB1) ?_ ?_; (focus (first | omega | (simp; done) | (simp; omega)))) | (with_reducible refine bvia (unhide HB2) ?_ ?_; (focus (first | omega | (simp; done) | (simp; omega)))) | (with_reducible refine bvia (unhide HB3) ?_ ?_; (focus (first | omega | (simp; done) | (simp; omega)))) | (with_reducible refine bvia (unhide HB4) ?_ ?_; (focus (first | omega | (simp; done) | (simp; omega)))) | (with_reducible refine bvia (unhide HB5) ?_ ?_; (focus (first | omega | (simp; done) | (simp; omega)))) | (with_reducible refine bvia (unhide HB6) ?_ ?_; (focus (first | omega | (simp; done) | (simp; omega)))))
end Go.Proofs.YtjfmiomopfjecabGreat

/- A script in memory. -/
namespace Go.Proofs.YtjfmiomopfjecabGreat
open Go.RowKit Go.Lib

/-- one step of a script -/
structure OpS where
  kind : Int
  dev : Int
  ek : Int
  en : Int
  et : ByteArray
  ec : Int
  eo : Int
  key : ByteArray
  image : ByteArray
  version : Int
  see : Bool
abbrev opC (o : OpS) : List Value := [.int .i64 o.kind, .int .i64 o.dev, .int .i64 o.ek, .int .i64 o.en, .string o.et, .int .i64 o.ec, .int .i64 o.eo, .string o.key, .string o.image, .int .i64 o.version, .bool o.see]
structure OpOk (o : OpS) : Prop where
  dev : -9223372036854775808 ≤ o.dev ∧ o.dev ≤ 9223372036854775807
  et : o.et.size ≤ maxLen
  key : o.key.size ≤ maxLen
  image : o.image.size ≤ maxLen
def opsC : List OpS → List Value
  | [] => []
  | x :: l => opC x ++ opsC l
theorem opsC_length (l : List OpS) : (opsC l).length = 11 * l.length := by
  induction l with
  | nil => rfl
  | cons x l ih => rw [opsC, List.length_append, ih]; show 11 + 11 * l.length = 11 * (l.length + 1); omega
theorem opsC_at (l : List OpS) : ∀ i (h : i < l.length) k, k < 11 → (opsC l)[11 * i + k]? = (opC l[i])[k]? := by
  induction l with
  | nil => intro i h; exact absurd h (by simp)
  | cons x l ih =>
    intro i h k hk
    rw [opsC]
    cases i with
    | zero =>
      rw [List.getElem?_append_left (by show _ < 11; omega), Nat.mul_zero, Nat.zero_add]
      rfl
    | succ i =>
      rw [List.getElem?_append_right (by show 11 ≤ _; omega), show 11 * (i + 1) + k - (opC x).length = 11 * i + k from by show 11 * (i + 1) + k - 11 = _; omega, ih i (by simpa using h) k hk]
      rfl
/-- a script that is read -/
def HoldsOps (w : World) (v : Value) (n : Nat) (xs : List Value) : Prop :=
  (∃ p cap, v = .slice p 0 cap ∧ n = 0) ∨ ∃ g off cap, v = .slice (some ⟨g, off, none⟩) n cap ∧ g < w.heap.size ∧ n ≤ cap ∧ cap ≤ maxLen ∧ ∀ j u, xs[j]? = some u → w.cell? ⟨g, off + j, none⟩ = some u
theorem HoldsOps.mono {w w' : World} {v : Value} {n : Nat} {xs : List Value} (h : HoldsOps w v n xs) (hb : Below w.heap.size w w') : HoldsOps w' v n xs := by
  rcases h with h | ⟨g, off, cap, hv, hg, h1, h2, h3⟩
  · exact .inl h
  · exact .inr ⟨g, off, cap, hv, Nat.lt_of_lt_of_le hg hb.size, h1, h2, fun j u hj => (hb.cell (p := ⟨g, off + j, none⟩) hg).trans (h3 j u hj)⟩
theorem PlayAt.cellsAt {W0 W : World} {ao : Option Addr} {ca : Nat} {L : List (Nat × Nat)} {D : Nat → M.Dev} (h : PlayAt W0 W (.slice ao L.length ca) L D) {m : Nat} (hm : m < L.length) :
    ∃ gl, ao = some ⟨gl, 0, none⟩ ∧ W.cell? ⟨gl, m * 2, none⟩ = some (.pointer (some ⟨L[m].1, 0, none⟩)) ∧ W.cell? ⟨gl, m * 2 + 1, none⟩ = some (.pointer (some ⟨L[m].2, 0, none⟩)) := by
  have hr := h.row
  rcases hr.2 with ⟨hv, h0⟩ | ⟨gl, cap, cur, hv, -⟩
  · omega
  · injection hv with ha _ hc
    subst ha hc
    have hc := pairC_at L m hm
    refine ⟨gl, rfl, ?_, ?_⟩
    · rw [hr.cellAt (m * 2) (by omega), Nat.mul_comm]; exact hc.1
    · rw [hr.cellAt (m * 2 + 1) (by omega), Nat.mul_comm]; exact hc.2
theorem row_shape {w : World} {base : Nat} {e : TypeId} {size n : Nat} {v : Value} {xs : List Value} (h : w.ownsRow base e size v n xs) : ∃ ao cap, v = .slice ao n cap := by
  rcases h.2 with ⟨hv, h0⟩ | ⟨g, cap, cur, hv, -⟩
  · subst h0; exact ⟨none, 0, hv⟩
  · exact ⟨_, _, hv⟩
/-- one device more: what lies in memory behind the append -/
theorem PlayAt.adds {W0 W W' X : World} {v v' : Value} {L : List (Nat × Nat)} {D : Nat → M.Dev} (h : PlayAt W0 W v L D) (hb : Below W.heap.size W X) {b g : Nat} {d : M.Dev} (hp : Pair X b g d) (hb1 : W.heap.size ≤ b) (hg1 : W.heap.size ≤ g) {o : Obj}
    (hown : W'.ownsRow W0.heap.size 91 2 v' (L.length + 1) (pairC L ++ [.pointer (some ⟨b, 0, none⟩), .pointer (some ⟨g, 0, none⟩)])) (hgr : (X.alloc o).grownBy W' v.ownBlock) {q : Nat} {oq : Obj} (hq : W.heap.size ≤ q) (hk : X.heap[q]? = some oq) :
    ∃ (L' : List (Nat × Nat)) (D' : Nat → M.Dev) (ao' : Option Addr) (ca' : Nat), L'.length ≤ L.length + 1 ∧ v' = .slice ao' L'.length ca' ∧ PlayAt W0 W' (.slice ao' L'.length ca') L' D' ∧ W'.heap[q]? = some oq := by
  have hpl := h.add hb hp hb1 hg1 hown hgr
  obtain ⟨ao, ca, hv⟩ := row_shape hpl.row
  refine ⟨L ++ [(b, g)], fun k => if k = L.length then d else D k, ao, ca, ?_, hv, ?_, ?_⟩
  · simp
  · rw [← hv]; exact hpl
  · have hql := (Array.getElem?_eq_some_iff.1 hk).1
    rw [hgr.block q (by simp; omega) ?_]
    · exact alloc_block hk o
    · intro e
      have := h.row.lt q e.symm
      omega
theorem infoP : (Tryz.prog.info? 91).map (fun i => (i.zero, i.size, i.bytes)) = some (some (.agg #[.pointer none, .pointer none]), 2, 16) := by kernel_rfl
/-- 'l = append(l, p)' for a pair p -/
theorem append_pair {ops : Array Oper} {rest : List Oper} {o : Oper} {a : Act} {Q : Exit → Act → World → Prop} (w : World) (hgd : o.guard = none) (s x : Operand)
    (ho : o.op = .call { callee := .builtin .append, args := #[s, x], argTypes := #[85, 85] })
    (base : Nat) (v : Value) (n : Nat) (xs : List Value) (b g nx : Nat) (hs : a.eval s = v) (hx : a.eval x = .slice (some ⟨nx, 0, none⟩) 1 1) (hnx : nx = w.heap.size)
    (hown : w.ownsRow base 91 2 v n xs) (hn : n + 1 ≤ 2000000000000) (hbase : base ≤ w.heap.size)
    (h : ∀ v' w', w'.ownsRow base 91 2 v' (n + 1) (xs ++ [.pointer (some ⟨b, 0, none⟩), .pointer (some ⟨g, 0, none⟩)]) → (w.alloc (.cells #[.pointer (some ⟨b, 0, none⟩), .pointer (some ⟨g, 0, none⟩)] 91)).grownBy w' v.ownBlock → wpList Tryz.prog ops Q rest (a.put o.dst v') w') :
    wpList Tryz.prog ops Q (o :: rest) a (w.alloc (.cells #[.pointer (some ⟨b, 0, none⟩), .pointer (some ⟨g, 0, none⟩)] 91)) := by
  subst hnx
  obtain ⟨i0, hi, hz0, hz1, hz2⟩ := info_parts infoP
  refine wpList_append_own _ hgd s x 85 ho base 91 i0 _ 2 16 Tryz.underlying85 hi hz0 hz1 hz2 rfl (by decide) v n xs hs (hown.alloc _) ⟨w.heap.size, 0, none⟩ 1 1 [.pointer (some ⟨b, 0, none⟩), .pointer (some ⟨g, 0, none⟩)] hx rfl ?_ ?_ (by unfold maxLen; omega) (by omega) (by simp; omega) ?_
  · intro j u hj
    rw [add_at, World.cell?_alloc_at _ _ _ _ rfl]
    simpa using hj
  · intro u hu
    simp at hu
    rcases hu with rfl | rfl <;> rfl
  · intro v' w' hown' hgrow _
    exact h v' w' hown' hgrow
end Go.Proofs.YtjfmiomopfjecabGreat

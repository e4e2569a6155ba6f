/- Texts laid together: KeepLive, KeepLive2, KeepSurvMath, KeepEvent. -/
import Derived.Test.YtjfmiomopfjecabGreatWk
import Derived.Test.YtjfmiomopfjecabGreatWa
import Derived.Test.YtjfmiomopfjecabGreatWh
import Derived.BigQuiet
import Derived.Test.YtjfmiomopfjecabGreatWb
import Derived.Test.YtjfmiomopfjecabGreatWc
import Derived.Test.YtjfmiomopfjecabGreatWd
import Derived.Test.YtjfmiomopfjecabGreatWe
import Derived.Test.YtjfmiomopfjecabGreatWf
import Derived.Test.YtjfmiomopfjecabGreatWg
import Derived.Test.YtjfmiomopfjecabGreatWi
import Derived.Test.YtjfmiomopfjecabGreatWj
import Derived.Test.YtjfmiomopfjecabGreatWl
import Derived.Test.YtjfmiomopfjecabGreatWm
/- Which version is kept: it is another only where the new image was confirmed, wherever the power fails. In plain words. -/
namespace Go.Proofs.YtjfmiomopfjecabGreat.M

def Kv (v : Nat) (F : Nat → Nat) : Prop := verOf F (fld F 1) = v
def KStays (v : Nat) (F : Nat → Nat) (l : List Wr) : Prop := ∀ c t, t ≤ 16 → Kv v (cutAt F l c t)
theorem kv_nil {v : Nat} {F : Nat → Nat} (h : Kv v F) : KStays v F [] := by
  intro c t _
  rw [cutAt_all (Nat.zero_le _)]
  exact h
theorem kv_same {v : Nat} {F G : Nat → Nat} (h : Kv v F) (hk : fld F 1 ≤ 1) (he : ∀ i, i < 16 → fld G i = fld F i) : Kv v G := by
  unfold Kv
  rw [he 1 (by omega)]
  unfold verOf
  rw [he _ (by omega), he _ (by omega)]
  exact h
/-- the version that a record tells of slot kept -/
def recV2 (kept a b c d : Nat) : Nat := if kept = 0 then 256 * a + b else 256 * c + d
theorem kv_record {v : Nat} {F : Nat → Nat} {w N : Nat} (hr : RecIs F w N) (h : Kv v F) (hk1 : fld F 1 ≤ 1) (os : List Wr) (ho : ∀ x ∈ os, 2 ≤ x.1) {kept phase tries l0 l1 a b c d th : Nat} (hk : kept ≤ 1) (hv : recV2 kept a b c d = v) :
    KStays v F (os ++ [noteW F 0 kept phase tries l0 l1 a b c d th]) := by
  intro k t ht
  rw [noteW_is hr]
  rcases cut_cases hr os ho kept phase tries l0 l1 a b c d th k t ht with e | e
  · rw [e]
    have hw := (all_written hr os ho kept phase tries l0 l1 a b c d th).2.1
    have e1 := hw 1 (by omega)
    have e6 := hw 6 (by omega)
    have e7 := hw 7 (by omega)
    have e8 := hw 8 (by omega)
    have e9 := hw 9 (by omega)
    unfold Kv
    rw [e1]
    show verOf _ kept = v
    unfold recV2 at hv
    have hc : kept = 0 ∨ kept = 1 := by omega
    rcases hc with rfl | rfl
    · unfold verOf
      rw [e6, e7]
      exact hv
    · unfold verOf
      rw [e8, e9]
      exact hv
  · exact kv_same h hk1 e.2.1
theorem recV2_same {v : Nat} {F : Nat → Nat} (h : Kv v F) (hk : fld F 1 ≤ 1) : recV2 (fld F 1) (fld F 6) (fld F 7) (fld F 8) (fld F 9) = v := by
  unfold recV2
  unfold Kv verOf at h
  have hc : fld F 1 = 0 ∨ fld F 1 = 1 := by omega
  rcases hc with e | e <;> rw [e] at h ⊢ <;> exact h
theorem kv_note {v : Nat} {F : Nat → Nat} {w N : Nat} (hr : RecIs F w N) (h : Kv v F) (hk1 : fld F 1 ≤ 1) {phase tries : Nat} : KStays v F [sameW F 0 phase tries] :=
  kv_record hr h hk1 [] (fun x hx => by cases hx) hk1 (recV2_same h hk1)
theorem kv_two {v : Nat} {F : Nat → Nat} {x : Wr} {l : List Wr} (h1 : KStays v F [x]) (h2 : KStays v (put F x.1 x.2 16) l) : KStays v F (x :: l) := by
  intro c t ht
  rw [cut_two]
  split
  · have := h1 0 t ht
    rw [cut_two] at this
    exact this
  · exact h2 _ t ht
theorem kv_offers {v : Nat} {d : Dev} (h : Inv' d) (hz : Kv v d.F) (s : ByteArray) : KStays v d.F (offers d s).ws := by
  obtain ⟨⟨w, N, hr⟩, hg, _⟩ := h
  have hk := hg.kept
  unfold offers
  by_cases e1 : fld d.F 2 = 2
  · rw [if_pos e1]; exact kv_nil hz
  rw [if_neg e1]
  by_cases e2 : isManifest d.key s = false
  · rw [if_pos e2]; exact kv_nil hz
  rw [if_neg e2]
  by_cases e3 : bz s 0 * 256 + bz s 1 ≤ keptV d.F ∨ bz s 2 * 256 + bz s 3 ≠ keptV d.F
  · rw [if_pos e3]; exact kv_nil hz
  rw [if_neg e3]
  have hin : ∀ x ∈ manPages s, 2 ≤ x.1 := fun x hx => (manPages_in hx).1
  by_cases e4 : fld d.F 2 = 1
  · rw [if_pos e4, if_pos e4]
    obtain ⟨hr1, hg1, hp1, q1, hn⟩ := after_same hr hg hg.tries
    have hs1 : KStays v d.F [sameW d.F 0 0 (fld d.F 3)] := kv_note hr hz hk
    have hS := hs1 1 16 (Nat.le_refl _)
    rw [cutAt_all (show [sameW d.F 0 0 (fld d.F 3)].length ≤ 1 from Nat.le_refl _)] at hS
    have h2 : KStays v (puts d.F [sameW d.F 0 0 (fld d.F 3)]) (manPages s ++ [sameW (puts d.F [sameW d.F 0 0 (fld d.F 3)]) 0 1 (fld d.F 3)]) := kv_record hr1 hS hg1.kept (manPages s) hin hg1.kept (recV2_same hS hg1.kept)
    rw [← hn] at h2
    exact kv_two hs1 h2
  · rw [if_neg e4, if_neg e4]
    exact kv_record hr hz hk (manPages s) hin hk (recV2_same hz hk)
theorem kv_installs {v : Nat} {d : Dev} (h : Inv' d) (hz : Kv v d.F) : KStays v d.F (installs d).ws := by
  obtain ⟨⟨w, N, hr⟩, hg, _⟩ := h
  have hk := hg.kept
  have hv := recV2_same hz hk
  unfold installs
  by_cases e : (builtN d.F).1 ≠ 0
  · rw [if_pos e]
    exact kv_note hr hz hk
  · rw [if_neg e]
    have hi := (built_ok (F := d.F) (by omega)).1
    have hsz := image_size hi
    have hin : ∀ x ∈ slotW (1 - fld d.F 1) (builtN d.F).2, 2 ≤ x.1 := fun x hx => by have := slotW_in (by omega) hx; omega
    show KStays v d.F (slotW (1 - fld d.F 1) (builtN d.F).2 ++ [if 1 - fld d.F 1 = 0 then _ else _])
    split
    · rename_i e0
      have e1 : fld d.F 1 = 1 := by omega
      refine kv_record hr hz hk _ hin (Nat.le_refl 1) ?_
      rw [e1] at hv
      exact hv
    · rename_i e0
      have e1 : fld d.F 1 = 0 := by omega
      refine kv_record hr hz hk _ hin (Nat.zero_le 1) ?_
      rw [e1] at hv
      exact hv
theorem kv_planned {v : Nat} {d : Dev} (h : Inv' d) (hz : Kv v d.F) (e : Ev) (hc : ¬ (e.kind = 7 ∧ fld d.F 2 = 2)) : KStays v d.F (planned d e).ws := by
  have h0 := h
  obtain ⟨⟨w, N, hr⟩, hg, _⟩ := h
  have hk := hg.kept
  unfold planned
  split
  · exact kv_nil hz
  split
  · exact kv_nil hz
  split
  · exact kv_nil hz
  split
  · exact kv_nil hz
  split
  · show KStays v d.F (if fld d.F 2 = 2 then (if fld d.F 3 = 0 then [sameW d.F 0 0 0] else [sameW d.F 0 2 (fld d.F 3 - 1)]) else [])
    split
    · split
      · exact kv_note hr hz hk
      · exact kv_note hr hz hk
    · exact kv_nil hz
  split
  · unfold ticks
    by_cases e2 : fld d.F 2 = 2
    · rw [if_pos e2]
      show KStays v d.F (if 5 ≤ d.age + 1 then [sameW d.F 0 0 0] else [])
      split
      · exact kv_note hr hz hk
      · exact kv_nil hz
    rw [if_neg e2]
    by_cases e1 : fld d.F 2 = 1
    · rw [if_pos e1]
      cases hm : missing d.F with
      | nil => exact kv_installs h0 hz
      | cons i l =>
        show KStays v d.F (if d.wait ≤ 1 then _ else _ : Plan).ws
        split
        · exact kv_nil hz
        · exact kv_nil hz
    · rw [if_neg e1]; exact kv_nil hz
  split
  · exact kv_nil hz
  split
  · exact kv_offers h0 hz e.text
  split
  · unfold takes
    by_cases e1 : fld d.F 2 ≠ 1
    · rw [if_pos e1]; exact kv_nil hz
    rw [if_neg e1]
    split
    · exact kv_nil hz
    split
    · exact kv_nil hz
    · refine kv_record hr hz hk [textW (5 + e.n.toNat) e.text 0] ?_ hk (recV2_same hz hk)
      intro x hx
      simp only [List.mem_cons, List.not_mem_nil, or_false] at hx
      subst hx
      show 2 ≤ 5 + e.n.toNat
      omega
  · rename_i k0 k1 k2 k3 k4 k5 k6 k7 k8
    unfold confirms
    split
    · exact kv_nil hz
    · rename_i e2
      exact absurd ⟨by omega, by omega⟩ hc
theorem kv_do {v : Nat} {d : Dev} (h : Inv' d) (hz : Kv v d.F) (e : Ev) (hc : ¬ (e.kind = 7 ∧ fld d.F 2 = 2)) : Kv v (doM d e).1.F := by
  have hp := kv_planned h hz e hc
  unfold doM
  split
  · exact hp e.cut.toNat (tornN e.torn) (tornN_le _)
  · have := hp (planned d e).ws.length 16 (Nat.le_refl _)
    rw [cutAt_all (Nat.le_refl _)] at this
    exact this
end Go.Proofs.YtjfmiomopfjecabGreat.M

/- A change, wherever the power fails; and how it comes to its end once the power holds. In plain words. -/
namespace Go.Proofs.YtjfmiomopfjecabGreat.M

/-- the flash of a device that a change comes over to, on or off -/
structure Lv (j : Job) (d : Dev) : Prop where
  inv : Inv' d
  tz : Tz d.F
  sj : Sj j d.F
  key : d.key = j.key
/-- is the new image kept? -/
def upB (j : Job) (d : Dev) : Bool := decide (verOf d.F (fld d.F 1) = j.up)
section
variable {j : Job} {d : Dev} {e : Ev} {ph tr th : Nat} {up : Bool}
theorem lv_kept (hj : JobOk j) (h : Lv j d) : verOf d.F (fld d.F 1) = if upB j d = true then j.up else j.base := by
  unfold upB
  have hl := hj.less
  rcases h.sj.kept with ⟨_, e⟩ | ⟨_, e⟩
  · rw [e, if_neg (by simp; omega)]
  · rw [e, if_pos (by simp)]
theorem lv_on (hj : JobOk j) (h : Lv j d) (hon : d.on = true) : St j d (fld d.F 2) (fld d.F 3) (fld d.F 10) (upB j d) := ⟨h.inv, h.tz, h.sj, h.key, hon, rfl, rfl, rfl, lv_kept hj h⟩
theorem lv_off (hj : JobOk j) (h : Lv j d) (hon : d.on = false) : Sf j d (fld d.F 2) (fld d.F 3) (fld d.F 10) (upB j d) := ⟨h.inv, h.tz, h.sj, h.key, hon, rfl, rfl, rfl, lv_kept hj h⟩
theorem st_lv (h : St j d ph tr th up) : Lv j d := ⟨h.inv, h.tz, h.sj, h.key⟩
theorem do_key (d : Dev) (e : Ev) : (doM d e).1.key = d.key := by
  unfold doM
  split <;> rfl
theorem lv_do (hj : JobOk j) (h : Lv j d) (he : JobEv j e) : Lv j (doM d e).1 := ⟨inv_do h.inv e, tz_do h.inv h.tz e, s_do hj h.inv h.sj he, (do_key d e).trans h.key⟩
theorem lv_same (h : Lv j d) (hc : ¬ (e.kind = 7 ∧ fld d.F 2 = 2)) : upB j (doM d e).1 = upB j d := by
  have : Kv (verOf d.F (fld d.F 1)) (doM d e).1.F := kv_do h.inv rfl e hc
  unfold upB
  rw [this]
theorem planned_err (d : Dev) (e : Ev) : (planned d e).err ≠ 10 := by
  unfold planned
  split
  · show (7 : Nat) ≠ 10; omega
  split
  · show (9 : Nat) ≠ 10; omega
  split
  · show (8 : Nat) ≠ 10; omega
  split
  · show (0 : Nat) ≠ 10; omega
  split
  · show (0 : Nat) ≠ 10; omega
  split
  · unfold ticks
    split
    · show (0 : Nat) ≠ 10; omega
    split
    · split
      · unfold installs
        split
        · show (builtN d.F).1 ≠ 10
          unfold builtN
          dsimp only
          split
          · show (4 : Nat) ≠ 10; omega
          split
          · show (15 : Nat) ≠ 10; omega
          split
          · show (1 : Nat) ≠ 10; omega
          split
          · show (16 : Nat) ≠ 10; omega
          · show (0 : Nat) ≠ 10; omega
        · show (0 : Nat) ≠ 10; omega
      · split
        · show (0 : Nat) ≠ 10; omega
        · show (0 : Nat) ≠ 10; omega
    · show (0 : Nat) ≠ 10; omega
  split
  · show (evalNum (imgOf d.F (servedD d.F)) e.text).toNat ≠ 10
    unfold evalNum
    split
    · split <;> decide
    · decide
  split
  · unfold offers
    split
    · show (11 : Nat) ≠ 10; omega
    split
    · show (13 : Nat) ≠ 10; omega
    split
    · show (6 : Nat) ≠ 10; omega
    · show (0 : Nat) ≠ 10; omega
  split
  · unfold takes
    split
    · show (12 : Nat) ≠ 10; omega
    split
    · show (14 : Nat) ≠ 10; omega
    split
    · show (0 : Nat) ≠ 10; omega
    · show (0 : Nat) ≠ 10; omega
  · unfold confirms
    split
    · show (12 : Nat) ≠ 10; omega
    · show (0 : Nat) ≠ 10; omega
theorem planned_is (d : Dev) (e : Ev) : planned d e = planned d (evW e.kind e.n e.text) := rfl
/-- an event at which the power does not fail -/
theorem do_uncut (h : cuts e (planned d e).ws = false) : doM d e = doM d (evW e.kind e.n e.text) := by
  rw [doM_whole (d := d) (e := evW e.kind e.n e.text) (by show (-1 : Int) < 0; omega), ← planned_is]
  conv => lhs; unfold doM
  rw [if_neg (by rw [h]; simp)]
theorem do_cut (h : cuts e (planned d e).ws = true) : (doM d e).1.on = false ∧ (doM d e).2.err = 10 ∧ 0 ≤ e.cut := by
  have hc : 0 ≤ e.cut := by
    unfold cuts at h
    simp at h
    omega
  unfold doM
  rw [if_pos h]
  exact ⟨rfl, rfl, hc⟩
theorem do_err (h : cuts e (planned d e).ws = false) : (doM d e).2.err ≠ 10 := by
  unfold doM
  rw [if_neg (by rw [h]; simp)]
  exact planned_err d e
theorem do_ten (h : (doM d e).2.err = 10) : (doM d e).1.on = false ∧ 0 ≤ e.cut := by
  cases hc : cuts e (planned d e).ws with
  | true => exact ⟨(do_cut hc).1, (do_cut hc).2.2⟩
  | false => exact absurd h (do_err hc)
theorem plan_on (hon : d.on = true) (hk : 3 ≤ e.kind) (hk7 : e.kind ≤ 7) : (planned d e).on = true := by
  rw [planned_is, planned_on hon hk hk7]
  split
  · unfold ticks
    split
    · exact hon
    split
    · split
      · unfold installs
        split
        · exact hon
        · exact hon
      · split
        · exact hon
        · exact hon
    · exact hon
  split
  · exact hon
  split
  · unfold offers
    split
    · exact hon
    split
    · exact hon
    split
    · exact hon
    · exact hon
  split
  · unfold takes
    split
    · exact hon
    split
    · exact hon
    split
    · exact hon
    · exact hon
  · unfold confirms
    split
    · exact hon
    · exact hon
/-- an event that is not cut off, and that is not Off, leaves the device on -/
theorem do_on (h : (doM d e).2.err ≠ 10) (hk1 : 1 ≤ e.kind) (hk7 : e.kind ≤ 7) (hne : e.kind ≠ 1) (hok : (d.on = true ∧ e.kind ≠ 2) ∨ (d.on = false ∧ e.kind = 2)) : (doM d e).1.on = true := by
  have hc : cuts e (planned d e).ws = false := by
    cases hc : cuts e (planned d e).ws with
    | true => exact absurd (do_cut hc).2.1 h
    | false => rfl
  unfold doM
  rw [if_neg (by rw [hc]; simp)]
  show (planned d e).on = true
  rcases hok with ⟨hon, h2⟩ | ⟨hoff, h2⟩
  · exact plan_on hon (by omega) hk7
  · unfold planned
    rw [if_neg (by omega), if_neg (by rw [hoff]; simp), if_neg (by omega), if_neg (by omega), if_pos h2]
    rfl
theorem do_fails {er : Nat} (he : er ≠ 0) (hp : planned d e = fails d er) : doM d e = (d, ⟨er, 0, ⟨#[]⟩, -1⟩) := by
  have hc : cuts e (planned d e).ws = false := by
    rw [hp]
    unfold cuts fails
    simp
  unfold doM
  rw [if_neg (by rw [hc]; simp), hp]
  have he' : ¬ ((fails d er).err = 0 ∧ (fails d er).on = true) := fun h => he h.1
  rw [if_neg he']
  rfl
theorem do_dead (hk1 : 1 ≤ e.kind) (hk7 : e.kind ≤ 7) (hoff : d.on = false) (h2 : e.kind ≠ 2) : doM d e = (d, ⟨8, 0, ⟨#[]⟩, -1⟩) := by
  refine do_fails (by omega) ?_
  unfold planned
  rw [if_neg (by omega), if_neg (by rw [hoff]; simp), if_pos ⟨h2, hoff⟩]
theorem do_awake (hon : d.on = true) (h2 : e.kind = 2) : doM d e = (d, ⟨9, 0, ⟨#[]⟩, -1⟩) := by
  refine do_fails (by omega) ?_
  unfold planned
  rw [if_neg (by omega), if_pos ⟨h2, hon⟩]
/-- the new image is confirmed: OK, and it is kept; or the power fails, and it may be -/
theorem do_confirm (hj : JobOk j) (h : Lv j d) (hon : d.on = true) (hk : e.kind = 7) (hp : fld d.F 2 = 2) (ht : e.text = ⟨#[]⟩) (hn : e.n = 0) (hne : (doM d e).2.err ≠ 10) : (doM d e).2.err = 0 ∧ upB j (doM d e).1 = true := by
  have hc : cuts e (planned d e).ws = false := by
    cases hc : cuts e (planned d e).ws with
    | true => exact absurd (do_cut hc).2.1 hne
    | false => rfl
  have hs := lv_on hj h hon
  have hu : upB j d = false := by
    unfold upB
    have := (h.sj.trial hp).2.1
    have hl := hj.less
    rw [this]
    simp
    omega
  rw [hp, hu] at hs
  obtain ⟨d', a, b⟩ := st_confirm hj hs
  rw [do_uncut hc, hk, hn, ht, a]
  refine ⟨rfl, ?_⟩
  unfold upB
  have := b.kept
  rw [if_pos rfl] at this
  rw [this]
  simp
/-- is served: its version -/
theorem lv_served (hj : JobOk j) (h : Lv j d) (hon : d.on = true) : verOf d.F (servedD d.F) = verP j (fld d.F 2) (upB j d) := (lv_on hj h hon).served
theorem lv_up_phase (hj : JobOk j) (h : Lv j d) (hu : upB j d = true) (hon : d.on = true) : fld d.F 2 = 0 := by
  have hs := lv_on hj h hon
  rw [hu] at hs
  exact St.steady hj hs
theorem lv_trial (hj : JobOk j) (h : Lv j d) (hp : fld d.F 2 = 2) : upB j d = false := by
  unfold upB
  have := (h.sj.trial hp).2.1
  have hl := hj.less
  rw [this]
  simp
  omega
/-- a record is whole -/
theorem lv_whole (h : Lv j d) : d.F 0 = d.F 15 ∨ d.F 16 = d.F 31 := by
  obtain ⟨⟨w, N, hr⟩, _⟩ := h.inv
  obtain ⟨hw, hN, h0, h15, ho, b0, b1⟩ := hr
  have hc : w = 0 ∨ w = 1 := by omega
  rcases hc with rfl | rfl
  · exact .inl (h0.trans h15.symm)
  · exact .inr (h0.trans h15.symm)
end
end Go.Proofs.YtjfmiomopfjecabGreat.M

/- A blow as an event; how far a change is from its end. In plain words. -/
namespace Go.Proofs.YtjfmiomopfjecabGreat.M

def blowK (k : Int) : Nat := 1 + pk k 7
def blowN (j : Job) (k n : Int) : Nat := if blowK k = 6 then pk n (chunksN j.patch.size) else 0
def blowT (j : Job) (k n : Int) : ByteArray := if blowK k = 5 then j.man else if blowK k = 6 then chunkT j (pk n (chunksN j.patch.size)) else ⟨#[]⟩
def blowE (j : Job) (k n cut torn : Int) : Ev := ⟨blowK k, blowN j k n, blowT j k n, cut, torn⟩
theorem blowK_bd (k : Int) : 1 ≤ blowK k ∧ blowK k ≤ 7 := by
  have := pk_lt k 7 (by omega)
  unfold blowK
  omega
section
variable {j : Job} {d : Dev} {e : Ev} {ph tr th : Nat} {up : Bool}
theorem job_chunks (hj : JobOk j) : 1 ≤ chunksN j.patch.size ∧ chunksN j.patch.size ≤ 6 := by
  have h1 := hj.least
  have h2 := hj.most
  unfold chunksN
  omega
theorem blow_ev (hj : JobOk j) (k n cut torn : Int) : JobEv j (blowE j k n cut torn) := by
  have hc := job_chunks hj
  have hp := pk_lt n (chunksN j.patch.size) (by omega)
  have hk := blowK_bd k
  unfold blowE blowN blowT
  by_cases h5 : blowK k = 5
  · refine .inr (.inl ⟨?_, ?_⟩)
    · show (blowK k : Int) = 5; omega
    · show (if blowK k = 5 then j.man else _) = j.man
      rw [if_pos h5]
  by_cases h6 : blowK k = 6
  · refine .inr (.inr ⟨_, ?_, hp, ?_, ?_⟩)
    · show (blowK k : Int) = 6; omega
    · show ((if blowK k = 6 then pk n (chunksN j.patch.size) else 0 : Nat) : Int) = _
      rw [if_pos h6]
    · show (if blowK k = 5 then j.man else if blowK k = 6 then chunkT j (pk n (chunksN j.patch.size)) else ⟨#[]⟩) = _
      rw [if_neg h5, if_pos h6]
  · refine .inl ⟨?_, ?_⟩
    · show (blowK k : Int) ≠ 5; omega
    · show (blowK k : Int) ≠ 6; omega
theorem blow_seven (k n cut torn : Int) (h : blowK k = 7) : (blowE j k n cut torn).text = ⟨#[]⟩ ∧ (blowE j k n cut torn).n = 0 := by
  unfold blowE blowN blowT
  refine ⟨?_, ?_⟩
  · show (if blowK k = 5 then j.man else if blowK k = 6 then chunkT j (pk n (chunksN j.patch.size)) else ⟨#[]⟩) = _
    rw [if_neg (by omega), if_neg (by omega)]
  · show ((if blowK k = 6 then pk n (chunksN j.patch.size) else 0 : Nat) : Int) = _
    rw [if_neg (by omega)]
    rfl
theorem chunkT_le (j : Job) (i : Nat) : (chunkT j i).size ≤ 16 := by unfold chunkT chunkLen; rw [mk_size]; omega
theorem blowT_le (hm : j.man.size ≤ maxLen) (k n : Int) : (blowT j k n).size ≤ maxLen := by
  unfold blowT
  split
  · exact hm
  split
  · have := chunkT_le j (pk n (chunksN j.patch.size))
    unfold maxLen
    omega
  · show 0 ≤ _
    exact Nat.zero_le _
theorem st_up (hj : JobOk j) (h : St j d ph tr th up) : upB j d = up := by
  unfold upB
  rw [h.kept]
  have := hj.less
  cases up
  · simp
    omega
  · simp
/-- how many steps are left at most -/
def rank (j : Job) (d : Dev) : Nat := if d.on = false then 4 else if upB j d = true then 0 else 3 - fld d.F 2
theorem rank_le : rank j d ≤ 4 := by
  unfold rank
  split
  · omega
  split
  · omega
  · omega
theorem st_rank (hj : JobOk j) (h : St j d ph tr th up) : rank j d = if up = true then 0 else 3 - ph := by
  unfold rank
  rw [if_neg (by rw [h.on]; simp), st_up hj h, h.phase]
theorem rank_zero (hj : JobOk j) (h : Lv j d) (hr : rank j d = 0) : St j d 0 0 (fld d.F 10) true := by
  have hp := h.inv.2.1.phase
  unfold rank at hr
  have hon : d.on = true := by
    cases ho : d.on with
    | true => rfl
    | false => rw [if_pos ho] at hr; omega
  rw [if_neg (by rw [hon]; simp)] at hr
  have hu : upB j d = true := by
    cases hu : upB j d with
    | true => rfl
    | false => rw [if_neg (by rw [hu]; simp)] at hr; omega
  have h0 := lv_up_phase hj h hu hon
  have hs := lv_on hj h hon
  have h3 : fld d.F 3 = 0 := h.tz (by omega)
  rw [hu, h0, h3] at hs
  exact hs
/-- what a device that is on shows -/
theorem lv_cases (hj : JobOk j) (h : Lv j d) (hon : d.on = true) :
    (upB j d = true ∧ St j d 0 0 (fld d.F 10) true) ∨ (upB j d = false ∧ fld d.F 2 = 2 ∧ St j d 2 (fld d.F 3) (fld d.F 10) false) ∨ (upB j d = false ∧ fld d.F 2 = 1 ∧ St j d 1 (fld d.F 3) (fld d.F 10) false) ∨ (upB j d = false ∧ fld d.F 2 = 0 ∧ St j d 0 (fld d.F 3) (fld d.F 10) false) := by
  have hs := lv_on hj h hon
  have hp := h.inv.2.1.phase
  cases hu : upB j d with
  | true =>
    refine .inl ⟨rfl, rank_zero hj h ?_⟩
    unfold rank
    rw [if_neg (by rw [hon]; simp), if_pos hu]
  | false =>
    rw [hu] at hs
    have hc : fld d.F 2 = 0 ∨ fld d.F 2 = 1 ∨ fld d.F 2 = 2 := by omega
    rcases hc with e | e | e
    · rw [e] at hs; exact .inr (.inr (.inr ⟨rfl, e, hs⟩))
    · rw [e] at hs; exact .inr (.inr (.inl ⟨rfl, e, hs⟩))
    · rw [e] at hs; exact .inr (.inl ⟨rfl, e, hs⟩)
end
end Go.Proofs.YtjfmiomopfjecabGreat.M

/- A blow as an event; whole pages. -/
namespace Go.Proofs.YtjfmiomopfjecabGreat
open Go.RowKit Go.Lib

theorem kWhole_any (P : ByteArray) (w : World) (hz : P.size = 16) (bb : Bool) (hbb : decide (M.bz P 0 = M.bz P 15) = bb) :
    Calls Tryz.prog 62 #[.string P] w fun e w' => e = .returned (.bool bb) ∧ Below w.heap.size w w' := by
  have p0 : 0 < P.size := by omega
  have p15 : 15 < P.size := by omega
  subst hbb
  have HE : Hid ((((P[0]'p0).toNat : Int) == ((P[15]'p15).toNat : Int)) = decide (M.bz P 0 = M.bz P 15)) := by
    show _ = _
    rw [M.bz_at P 0 p0, M.bz_at P 15 p15, Bool.eq_iff_iff]
    simp
    omega
  have q0 : (P[0]'p0).toNat < 256 := UInt8.toNat_lt _
  have q15 : (P[15]'p15).toNat < 256 := UInt8.toNat_lt _
  have i0 : (0 : Int) < (P.size : Int) := by omega
  have i15 : (15 : Int) < (P.size : Int) := by omega
  have hl : ((P.size : Int) == 16) = true := beq_iff_eq.2 (by omega)
  clear hz
  go_enter Tryz.func62, Tryz.ntmps62
  go_wp2_with fail
  go_quiet (fail)
  go_wp2
  go_ret
  exact ⟨ret_bool HE.out, below_drewN (Below.refl _ _) _⟩
theorem setRow5 {X : World} {q : Nat} {z0 z1 z2 z3 z4 a0 a1 a2 a3 a4 : Value} {t : TypeId} (h : X.heap[q]? = some (.cells #[z0, z1, z2, z3, z4] t (0, 0))) :
    (((((X.setCell ⟨q, 0, none⟩ a0).setCell ⟨q, 1, none⟩ a1).setCell ⟨q, 2, none⟩ a2).setCell ⟨q, 3, none⟩ a3).setCell ⟨q, 4, none⟩ a4).heap[q]? = some (.cells #[a0, a1, a2, a3, a4] t (0, 0)) := by
  have h0 : (X.setCell ⟨q, 0, none⟩ a0).heap[q]? = some (.cells #[a0, z1, z2, z3, z4] t (0, 0)) := (setCell_in h 0 a0).trans rfl
  have h1 : ((X.setCell ⟨q, 0, none⟩ a0).setCell ⟨q, 1, none⟩ a1).heap[q]? = some (.cells #[a0, a1, z2, z3, z4] t (0, 0)) := (setCell_in h0 1 a1).trans rfl
  have h2 : (((X.setCell ⟨q, 0, none⟩ a0).setCell ⟨q, 1, none⟩ a1).setCell ⟨q, 2, none⟩ a2).heap[q]? = some (.cells #[a0, a1, a2, z3, z4] t (0, 0)) := (setCell_in h1 2 a2).trans rfl
  have h3 : ((((X.setCell ⟨q, 0, none⟩ a0).setCell ⟨q, 1, none⟩ a1).setCell ⟨q, 2, none⟩ a2).setCell ⟨q, 3, none⟩ a3).heap[q]? = some (.cells #[a0, a1, a2, a3, z4] t (0, 0)) := (setCell_in h2 3 a3).trans rfl
  exact (setCell_in h3 4 a4).trans rfl
theorem gen_world {Q : World → Prop} {Z : World} (Φ : World → Prop) (h1 : Φ Z) (h2 : ∀ Z, Φ Z → Q Z) : Q Z := h2 Z h1
set_option maxRecDepth 10000 in
set_option maxHeartbeats 1000000 in
theorem event_else (j : M.Job) (ex : ByteArray) (k n cut torn : Int) (p : Nat) (X : World) (hp : p < 7) (h4 : ¬ p = 4) (h5 : ¬ p = 5)
    (hpk : ∀ X : World, Calls Tryz.prog 12 #[.int .i64 k, .int .i64 7] X fun e w' => e = .returned (.int .i64 p) ∧ X = w') :
    Calls Tryz.prog 44 #[jobV j ex, .agg #[.int .i64 k, .int .i64 n, .int .i64 cut, .int .i64 torn]] X fun e w' => e = .returned (evV ((1 : Int) + p) 0 ⟨#[]⟩ cut torn) ∧ Below X.heap.size X w' := by
  have HPK := hide hpk
  clear hpk
  have hwp : IntKind.i64.wrap (1 + (p : Int)) = 1 + (p : Int) := IntWalk.i64_in _ ⟨by omega, by omega⟩
  skip
  have rule1 : ∀ (Y : World) (o : Nat), Y.heap[X.heap.size + 1]? = some (.cells #[.int .i64 k, .int .i64 n, .int .i64 cut, .int .i64 torn] 61 (0, 0)) → Y.cell? ⟨X.heap.size + 1, o, none⟩ = (#[.int .i64 k, .int .i64 n, .int .i64 cut, .int .i64 torn] : Array Value)[o]? := fun Y o h => cell_in h o
  go_enter Tryz.func44, Tryz.ntmps44
  go_wp2_with fail
  have KB := hide (ablk (o2 := .cells #[.int .i64 0, .int .i64 0, .string ⟨#[]⟩, .int .i64 0, .int .i64 0] 74) (last_block (X.alloc (.cells #[.string j.key, .string j.old, .string j.now, .int .i64 j.base, .int .i64 j.up, .string j.patch, .string ex, .string j.man] 30)) (.cells #[.int .i64 k, .int .i64 n, .int .i64 cut, .int .i64 torn] 61) (n := X.heap.size + 1) (by simp)))
  go_region_held3 (fun Y => Y.heap[X.heap.size + 1]? = some (.cells #[.int .i64 k, .int .i64 n, .int .i64 cut, .int .i64 torn] 61 (0, 0))) (repeat (first | with_reducible exact unhide KB | with_reducible refine ablk ?_ | with_reducible refine drew_block ?_ | (with_reducible refine sblk ?_ ?_; (focus omega)) | with_reducible exact last_block _ _ (by simp))) ((go_at_call 12; with_reducible refine (unhide HPK _).mono ?_; rintro y wN ⟨rfl, rfl⟩))
  all_goals
    refine gen_world (Q := Exit.then _ _ Exit.normal _) (fun Z => Z.heap[X.heap.size]? = some (.cells #[.string j.key, .string j.old, .string j.now, .int .i64 j.base, .int .i64 j.up, .string j.patch, .string ex, .string j.man] 30 (0, 0)) ∧ Z.heap[X.heap.size + 1]? = some (.cells #[.int .i64 k, .int .i64 n, .int .i64 cut, .int .i64 torn] 61 (0, 0)) ∧ Z.heap[X.heap.size + 1 + 1]? = some (.cells #[.int .i64 0, .int .i64 0, .string ⟨#[]⟩, .int .i64 0, .int .i64 0] 74 (0, 0)) ∧ Z.heap[X.heap.size + 1 + 1 + 1]? = some (.cells #[.int .i64 (1 + (p : Int)), .int .i64 0, .string ⟨#[]⟩, .int .i64 cut, .int .i64 torn] 74 (0, 0)) ∧ Z.heap.size = X.heap.size + 4 ∧ Below X.heap.size X Z) ?_ ?_
    · refine ⟨?_, ?_, ?_, ?_, ?_, ?_⟩
      · repeat (first | with_reducible exact first_block _ _ _ | with_reducible exact setRow5 (last_block _ _ (by simp)) | (with_reducible refine lblk ?_; (focus (first | rfl | (simp; done)))) | with_reducible refine ablk ?_ | with_reducible refine drew_block ?_ | (with_reducible refine sblk ?_ ?_; (focus omega)))
      · repeat (first | with_reducible exact first_block _ _ _ | with_reducible exact setRow5 (last_block _ _ (by simp)) | (with_reducible refine lblk ?_; (focus (first | rfl | (simp; done)))) | with_reducible refine ablk ?_ | with_reducible refine drew_block ?_ | (with_reducible refine sblk ?_ ?_; (focus omega)))
      · repeat (first | with_reducible exact first_block _ _ _ | with_reducible exact setRow5 (last_block _ _ (by simp)) | (with_reducible refine lblk ?_; (focus (first | rfl | (simp; done)))) | with_reducible refine ablk ?_ | with_reducible refine drew_block ?_ | (with_reducible refine sblk ?_ ?_; (focus omega)))
      · repeat (first | with_reducible exact first_block _ _ _ | with_reducible exact setRow5 (last_block _ _ (by simp)) | (with_reducible refine lblk ?_; (focus (first | rfl | (simp; done)))) | with_reducible refine ablk ?_ | with_reducible refine drew_block ?_ | (with_reducible refine sblk ?_ ?_; (focus omega)))
      · first | (simp; done) | (show ((World.alloc _ _).setCell _ _).heap.size = _; simp [World.setCell]) | (simp [World.setCell]; done)
      · repeat (first | with_reducible exact Below.refl _ _ | with_reducible refine bdrew ?_ | (with_reducible refine bset ?_ ?_; (focus (first | omega | (simp; done) | (simp; omega)))) | (with_reducible refine balloc ?_ ?_; (focus (first | omega | (simp; done) | (simp; omega)))))
    · rintro Z ⟨kJ, kB, kR, kE, hZ, hbZ⟩
      have HB := hide hbZ
      obtain ⟨hxJ, hfJ⟩ := block_facts kJ
      obtain ⟨hxB, hfB⟩ := block_facts kB
      obtain ⟨hxR, hfR⟩ := block_facts kR
      obtain ⟨hxE, hfE⟩ := block_facts kE
      clear hbZ hwp rule1
      have m1 : ¬ X.heap.size + 1 + 1 + 1 = X.heap.size + 1 + 1 := by omega
      have m2 : ¬ X.heap.size + 1 + 1 = X.heap.size + 1 + 1 + 1 := by omega
      have l0 : X.heap.size < Z.heap.size := by omega
      have l2 : X.heap.size + 1 + 1 < Z.heap.size := by omega
      have l3 : X.heap.size + 1 + 1 + 1 < Z.heap.size := by omega
      have q4 : ¬ (1 + (p : Int)) = 5 := by omega
      have q5 : ¬ (1 + (p : Int)) = 6 := by omega
      go_wp2
      refine bodyPost_ret (v := evV ((1 : Int) + p) 0 ⟨#[]⟩ cut torn) (by simp [results, Tryz.results44, go_sem, *]) rfl ⟨rfl, ?_⟩
      repeat (first | with_reducible exact unhide HB | with_reducible exact Below.refl _ _ | with_reducible refine bdrew ?_ | (with_reducible refine brow ?_ ?_; (focus (first | omega | (simp; done) | (simp; omega)))) | (with_reducible refine bset ?_ ?_; (focus (first | omega | (simp; done) | (simp; omega)))) | (with_reducible refine balloc ?_ ?_; (focus (first | omega | (simp; done) | (simp; omega)))) | (with_reducible refine bvia (unhide HB1) ?_ ?_; (focus (first | omega | (simp; done) | (simp; omega)))) | (with_reducible refine bvia (unhide HB2) ?_ ?_; (focus (first | omega | (simp; done) | (simp; omega)))) | (with_reducible refine bvia (unhide HB3) ?_ ?_; (focus (first | omega | (simp; done) | (simp; omega)))) | (with_reducible refine bvia (unhide HB4) ?_ ?_; (focus (first | omega | (simp; done) | (simp; omega)))) | (with_reducible refine bvia (unhide HB5) ?_ ?_; (focus (first | omega | (simp; done) | (simp; omega)))) | (with_reducible refine bvia (unhide HB6) ?_ ?_; (focus (first | omega | (simp; done) | (simp; omega)))))
set_option maxRecDepth 10000 in
set_option maxHeartbeats 1000000 in
theorem event_five (j : M.Job) (ex : ByteArray) (k n cut torn : Int) (p : Nat) (X : World) (hp : p = 4)
    (hpk : ∀ X : World, Calls Tryz.prog 12 #[.int .i64 k, .int .i64 7] X fun e w' => e = .returned (.int .i64 p) ∧ X = w') :
    Calls Tryz.prog 44 #[jobV j ex, .agg #[.int .i64 k, .int .i64 n, .int .i64 cut, .int .i64 torn]] X fun e w' => e = .returned (evV ((1 : Int) + p) 0 j.man cut torn) ∧ Below X.heap.size X w' := by
  have HPK := hide hpk
  clear hpk
  have hwp : IntKind.i64.wrap (1 + (p : Int)) = 1 + (p : Int) := IntWalk.i64_in _ ⟨by omega, by omega⟩
  have HP0 := hide hp
  clear hp
  have rule1 : ∀ (Y : World) (o : Nat), Y.heap[X.heap.size + 1]? = some (.cells #[.int .i64 k, .int .i64 n, .int .i64 cut, .int .i64 torn] 61 (0, 0)) → Y.cell? ⟨X.heap.size + 1, o, none⟩ = (#[.int .i64 k, .int .i64 n, .int .i64 cut, .int .i64 torn] : Array Value)[o]? := fun Y o h => cell_in h o
  go_enter Tryz.func44, Tryz.ntmps44
  go_wp2_with fail
  have KB := hide (ablk (o2 := .cells #[.int .i64 0, .int .i64 0, .string ⟨#[]⟩, .int .i64 0, .int .i64 0] 74) (last_block (X.alloc (.cells #[.string j.key, .string j.old, .string j.now, .int .i64 j.base, .int .i64 j.up, .string j.patch, .string ex, .string j.man] 30)) (.cells #[.int .i64 k, .int .i64 n, .int .i64 cut, .int .i64 torn] 61) (n := X.heap.size + 1) (by simp)))
  go_region_held3 (fun Y => Y.heap[X.heap.size + 1]? = some (.cells #[.int .i64 k, .int .i64 n, .int .i64 cut, .int .i64 torn] 61 (0, 0))) (repeat (first | with_reducible exact unhide KB | with_reducible refine ablk ?_ | with_reducible refine drew_block ?_ | (with_reducible refine sblk ?_ ?_; (focus omega)) | with_reducible exact last_block _ _ (by simp))) ((go_at_call 12; with_reducible refine (unhide HPK _).mono ?_; rintro y wN ⟨rfl, rfl⟩))
  all_goals
    refine gen_world (Q := Exit.then _ _ Exit.normal _) (fun Z => Z.heap[X.heap.size]? = some (.cells #[.string j.key, .string j.old, .string j.now, .int .i64 j.base, .int .i64 j.up, .string j.patch, .string ex, .string j.man] 30 (0, 0)) ∧ Z.heap[X.heap.size + 1]? = some (.cells #[.int .i64 k, .int .i64 n, .int .i64 cut, .int .i64 torn] 61 (0, 0)) ∧ Z.heap[X.heap.size + 1 + 1]? = some (.cells #[.int .i64 0, .int .i64 0, .string ⟨#[]⟩, .int .i64 0, .int .i64 0] 74 (0, 0)) ∧ Z.heap[X.heap.size + 1 + 1 + 1]? = some (.cells #[.int .i64 (1 + (p : Int)), .int .i64 0, .string ⟨#[]⟩, .int .i64 cut, .int .i64 torn] 74 (0, 0)) ∧ Z.heap.size = X.heap.size + 4 ∧ Below X.heap.size X Z) ?_ ?_
    · refine ⟨?_, ?_, ?_, ?_, ?_, ?_⟩
      · repeat (first | with_reducible exact first_block _ _ _ | with_reducible exact setRow5 (last_block _ _ (by simp)) | (with_reducible refine lblk ?_; (focus (first | rfl | (simp; done)))) | with_reducible refine ablk ?_ | with_reducible refine drew_block ?_ | (with_reducible refine sblk ?_ ?_; (focus omega)))
      · repeat (first | with_reducible exact first_block _ _ _ | with_reducible exact setRow5 (last_block _ _ (by simp)) | (with_reducible refine lblk ?_; (focus (first | rfl | (simp; done)))) | with_reducible refine ablk ?_ | with_reducible refine drew_block ?_ | (with_reducible refine sblk ?_ ?_; (focus omega)))
      · repeat (first | with_reducible exact first_block _ _ _ | with_reducible exact setRow5 (last_block _ _ (by simp)) | (with_reducible refine lblk ?_; (focus (first | rfl | (simp; done)))) | with_reducible refine ablk ?_ | with_reducible refine drew_block ?_ | (with_reducible refine sblk ?_ ?_; (focus omega)))
      · repeat (first | with_reducible exact first_block _ _ _ | with_reducible exact setRow5 (last_block _ _ (by simp)) | (with_reducible refine lblk ?_; (focus (first | rfl | (simp; done)))) | with_reducible refine ablk ?_ | with_reducible refine drew_block ?_ | (with_reducible refine sblk ?_ ?_; (focus omega)))
      · first | (simp; done) | (show ((World.alloc _ _).setCell _ _).heap.size = _; simp [World.setCell]) | (simp [World.setCell]; done)
      · repeat (first | with_reducible exact Below.refl _ _ | with_reducible refine bdrew ?_ | (with_reducible refine bset ?_ ?_; (focus (first | omega | (simp; done) | (simp; omega)))) | (with_reducible refine balloc ?_ ?_; (focus (first | omega | (simp; done) | (simp; omega)))))
    · rintro Z ⟨kJ, kB, kR, kE, hZ, hbZ⟩
      have HB := hide hbZ
      obtain ⟨hxJ, hfJ⟩ := block_facts kJ
      obtain ⟨hxB, hfB⟩ := block_facts kB
      obtain ⟨hxR, hfR⟩ := block_facts kR
      obtain ⟨hxE, hfE⟩ := block_facts kE
      clear hbZ hwp rule1
      have m1 : ¬ X.heap.size + 1 + 1 + 1 = X.heap.size + 1 + 1 := by omega
      have m2 : ¬ X.heap.size + 1 + 1 = X.heap.size + 1 + 1 + 1 := by omega
      have l0 : X.heap.size < Z.heap.size := by omega
      have l2 : X.heap.size + 1 + 1 < Z.heap.size := by omega
      have l3 : X.heap.size + 1 + 1 + 1 < Z.heap.size := by omega
      have hp := unhide HP0
      subst hp
      go_wp2
      refine bodyPost_ret (v := evV ((1 : Int) + (4 : Nat)) 0 j.man cut torn) (by simp [results, Tryz.results44, go_sem, *]) rfl ⟨rfl, ?_⟩
      repeat (first | with_reducible exact unhide HB | with_reducible exact Below.refl _ _ | with_reducible refine bdrew ?_ | (with_reducible refine brow ?_ ?_; (focus (first | omega | (simp; done) | (simp; omega)))) | (with_reducible refine bset ?_ ?_; (focus (first | omega | (simp; done) | (simp; omega)))) | (with_reducible refine balloc ?_ ?_; (focus (first | omega | (simp; done) | (simp; omega)))) | (with_reducible refine bvia (unhide HB1) ?_ ?_; (focus (first | omega | (simp; done) | (simp; omega)))) | (with_reducible refine bvia (unhide HB2) ?_ ?_; (focus (first | omega | (simp; done) | (simp; omega)))) | (with_reducible refine bvia (unhide HB3) ?_ ?_; (focus (first | omega | (simp; done) | (simp; omega)))) | (with_reducible refine bvia (unhide HB4) ?_ ?_; (focus (first | omega | (simp; done) | (simp; omega)))) | (with_reducible refine bvia (unhide HB5) ?_ ?_; (focus (first | omega | (simp; done) | (simp; omega)))) | (with_reducible refine bvia (unhide HB6) ?_ ?_; (focus (first | omega | (simp; done) | (simp; omega)))))
set_option maxRecDepth 10000 in
set_option maxHeartbeats 1000000 in
theorem event_six (j : M.Job) (ex : ByteArray) (k n cut torn : Int) (p : Nat) (X : World) (hp : p = 5) (c m : Nat) (C : ByteArray)
    (hpk : ∀ X : World, Calls Tryz.prog 12 #[.int .i64 k, .int .i64 7] X fun e w' => e = .returned (.int .i64 p) ∧ X = w')
    (hcs : ∀ X : World, Calls Tryz.prog 23 #[jobV j ex] X fun e w' => e = .returned (.int .i64 c) ∧ Below X.heap.size X w')
    (hp2 : ∀ X : World, Calls Tryz.prog 12 #[.int .i64 n, .int .i64 c] X fun e w' => e = .returned (.int .i64 m) ∧ X = w')
    (hch : ∀ X : World, Calls Tryz.prog 21 #[jobV j ex, .int .i64 m] X fun e w' => e = .returned (.string C) ∧ Below X.heap.size X w') :
    Calls Tryz.prog 44 #[jobV j ex, .agg #[.int .i64 k, .int .i64 n, .int .i64 cut, .int .i64 torn]] X fun e w' => e = .returned (evV ((1 : Int) + p) m C cut torn) ∧ Below X.heap.size X w' := by
  have HPK := hide hpk
  have HCS := hide hcs
  have HP2 := hide hp2
  have HCH := hide hch
  clear hpk hcs hp2 hch
  have hwp : IntKind.i64.wrap (1 + (p : Int)) = 1 + (p : Int) := IntWalk.i64_in _ ⟨by omega, by omega⟩
  have HP0 := hide hp
  clear hp
  have rule1 : ∀ (Y : World) (o : Nat), Y.heap[X.heap.size + 1]? = some (.cells #[.int .i64 k, .int .i64 n, .int .i64 cut, .int .i64 torn] 61 (0, 0)) → Y.cell? ⟨X.heap.size + 1, o, none⟩ = (#[.int .i64 k, .int .i64 n, .int .i64 cut, .int .i64 torn] : Array Value)[o]? := fun Y o h => cell_in h o
  go_enter Tryz.func44, Tryz.ntmps44
  go_wp2_with fail
  have KB := hide (ablk (o2 := .cells #[.int .i64 0, .int .i64 0, .string ⟨#[]⟩, .int .i64 0, .int .i64 0] 74) (last_block (X.alloc (.cells #[.string j.key, .string j.old, .string j.now, .int .i64 j.base, .int .i64 j.up, .string j.patch, .string ex, .string j.man] 30)) (.cells #[.int .i64 k, .int .i64 n, .int .i64 cut, .int .i64 torn] 61) (n := X.heap.size + 1) (by simp)))
  go_region_held3 (fun Y => Y.heap[X.heap.size + 1]? = some (.cells #[.int .i64 k, .int .i64 n, .int .i64 cut, .int .i64 torn] 61 (0, 0))) (repeat (first | with_reducible exact unhide KB | with_reducible refine ablk ?_ | with_reducible refine drew_block ?_ | (with_reducible refine sblk ?_ ?_; (focus omega)) | with_reducible exact last_block _ _ (by simp))) ((go_at_call 12; with_reducible refine (unhide HPK _).mono ?_; rintro y wN ⟨rfl, rfl⟩))
  all_goals
    refine gen_world (Q := Exit.then _ _ Exit.normal _) (fun Z => Z.heap[X.heap.size]? = some (.cells #[.string j.key, .string j.old, .string j.now, .int .i64 j.base, .int .i64 j.up, .string j.patch, .string ex, .string j.man] 30 (0, 0)) ∧ Z.heap[X.heap.size + 1]? = some (.cells #[.int .i64 k, .int .i64 n, .int .i64 cut, .int .i64 torn] 61 (0, 0)) ∧ Z.heap[X.heap.size + 1 + 1]? = some (.cells #[.int .i64 0, .int .i64 0, .string ⟨#[]⟩, .int .i64 0, .int .i64 0] 74 (0, 0)) ∧ Z.heap[X.heap.size + 1 + 1 + 1]? = some (.cells #[.int .i64 (1 + (p : Int)), .int .i64 0, .string ⟨#[]⟩, .int .i64 cut, .int .i64 torn] 74 (0, 0)) ∧ Z.heap.size = X.heap.size + 4 ∧ Below X.heap.size X Z) ?_ ?_
    · refine ⟨?_, ?_, ?_, ?_, ?_, ?_⟩
      · repeat (first | with_reducible exact first_block _ _ _ | with_reducible exact setRow5 (last_block _ _ (by simp)) | (with_reducible refine lblk ?_; (focus (first | rfl | (simp; done)))) | with_reducible refine ablk ?_ | with_reducible refine drew_block ?_ | (with_reducible refine sblk ?_ ?_; (focus omega)))
      · repeat (first | with_reducible exact first_block _ _ _ | with_reducible exact setRow5 (last_block _ _ (by simp)) | (with_reducible refine lblk ?_; (focus (first | rfl | (simp; done)))) | with_reducible refine ablk ?_ | with_reducible refine drew_block ?_ | (with_reducible refine sblk ?_ ?_; (focus omega)))
      · repeat (first | with_reducible exact first_block _ _ _ | with_reducible exact setRow5 (last_block _ _ (by simp)) | (with_reducible refine lblk ?_; (focus (first | rfl | (simp; done)))) | with_reducible refine ablk ?_ | with_reducible refine drew_block ?_ | (with_reducible refine sblk ?_ ?_; (focus omega)))
      · repeat (first | with_reducible exact first_block _ _ _ | with_reducible exact setRow5 (last_block _ _ (by simp)) | (with_reducible refine lblk ?_; (focus (first | rfl | (simp; done)))) | with_reducible refine ablk ?_ | with_reducible refine drew_block ?_ | (with_reducible refine sblk ?_ ?_; (focus omega)))
      · first | (simp; done) | (show ((World.alloc _ _).setCell _ _).heap.size = _; simp [World.setCell]) | (simp [World.setCell]; done)
      · repeat (first | with_reducible exact Below.refl _ _ | with_reducible refine bdrew ?_ | (with_reducible refine bset ?_ ?_; (focus (first | omega | (simp; done) | (simp; omega)))) | (with_reducible refine balloc ?_ ?_; (focus (first | omega | (simp; done) | (simp; omega)))))
    · rintro Z ⟨kJ, kB, kR, kE, hZ, hbZ⟩
      have HB := hide hbZ
      obtain ⟨hxJ, hfJ⟩ := block_facts kJ
      obtain ⟨hxB, hfB⟩ := block_facts kB
      obtain ⟨hxR, hfR⟩ := block_facts kR
      obtain ⟨hxE, hfE⟩ := block_facts kE
      clear hbZ hwp rule1
      have m1 : ¬ X.heap.size + 1 + 1 + 1 = X.heap.size + 1 + 1 := by omega
      have m2 : ¬ X.heap.size + 1 + 1 = X.heap.size + 1 + 1 + 1 := by omega
      have l0 : X.heap.size < Z.heap.size := by omega
      have l2 : X.heap.size + 1 + 1 < Z.heap.size := by omega
      have l3 : X.heap.size + 1 + 1 + 1 < Z.heap.size := by omega
      have hp := unhide HP0
      subst hp
      have KJ := hide kJ
      have KB := hide kB
      have KR := hide kR
      have KE := hide kE
      have rule1 : ∀ (Y : World) (o : Nat), Y.heap[X.heap.size + 1]? = some (.cells #[.int .i64 k, .int .i64 n, .int .i64 cut, .int .i64 torn] 61 (0, 0)) → Y.cell? ⟨X.heap.size + 1, o, none⟩ = (#[.int .i64 k, .int .i64 n, .int .i64 cut, .int .i64 torn] : Array Value)[o]? := fun Y o h => cell_in h o
      have rule2 : ∀ (Y : World) (o : Nat), Y.heap[X.heap.size]? = some (.cells #[.string j.key, .string j.old, .string j.now, .int .i64 j.base, .int .i64 j.up, .string j.patch, .string ex, .string j.man] 30 (0, 0)) → Y.cell? ⟨X.heap.size, o, none⟩ = (#[.string j.key, .string j.old, .string j.now, .int .i64 j.base, .int .i64 j.up, .string j.patch, .string ex, .string j.man] : Array Value)[o]? := fun Y o h => cell_in h o
      clear kJ kB kR kE
      go_wp2_with fail
      go_region_held3 (fun Y => Y.heap[X.heap.size + 1]? = some (.cells #[.int .i64 k, .int .i64 n, .int .i64 cut, .int .i64 torn] 61 (0, 0)) ∧ Y.heap[X.heap.size]? = some (.cells #[.string j.key, .string j.old, .string j.now, .int .i64 j.base, .int .i64 j.up, .string j.patch, .string ex, .string j.man] 30 (0, 0))) (refine ⟨?_, ?_⟩ <;> (repeat (first | with_reducible exact hC1 | with_reducible exact hC2 | with_reducible exact unhide KB | with_reducible exact unhide KJ | with_reducible refine ablk ?_ | with_reducible refine drew_block ?_ | (with_reducible refine sblk ?_ ?_; (focus omega))))) ((first
        | (go_at_call 23; with_reducible refine (unhide HCS _).mono ?_; rintro y w1 ⟨rfl, hb1⟩; have hC1 := kept_block hb1 (drew_block (unhide KB)); have hC2 := kept_block hb1 (drew_block (unhide KJ)); have hC3 := kept_block hb1 (drew_block (unhide KE)); have hC4 := kept_block hb1 (drew_block (unhide KR)); have hs1 := hb1.size; have hxE1 := (block_facts hC3).1; have hfE1 := (block_facts hC3).2; have lE1 := (Array.getElem?_eq_some_iff.1 hC3).1)
        | (go_at_call 12; with_reducible refine (unhide HP2 _).mono ?_; rintro y wN ⟨rfl, rfl⟩)))
      all_goals
        refine gen_world (Q := Exit.then _ _ Exit.normal _) (fun Y => Y.heap[X.heap.size]? = some (.cells #[.string j.key, .string j.old, .string j.now, .int .i64 j.base, .int .i64 j.up, .string j.patch, .string ex, .string j.man] 30 (0, 0)) ∧ Y.heap[X.heap.size + 1 + 1]? = some (.cells #[.int .i64 0, .int .i64 0, .string ⟨#[]⟩, .int .i64 0, .int .i64 0] 74 (0, 0)) ∧ Y.heap[X.heap.size + 1 + 1 + 1]? = some (.cells #[.int .i64 (1 + (5 : Nat) : Int), .int .i64 m, .string ⟨#[]⟩, .int .i64 cut, .int .i64 torn] 74 (0, 0)) ∧ Below X.heap.size X Y) ?_ ?_
        · refine ⟨?_, ?_, ?_, ?_⟩
          · repeat (first | with_reducible exact hC2 | with_reducible refine drew_block ?_ | (with_reducible refine sblk ?_ ?_; (focus omega)))
          · repeat (first | with_reducible exact hC4 | with_reducible refine drew_block ?_ | (with_reducible refine sblk ?_ ?_; (focus omega)))
          · first | exact (setCell_in hC3 1 _).trans rfl | exact (drew_block (setCell_in hC3 1 _)).trans rfl
          · have HB9 := hide ((unhide HB).trans ((Below.refl X.heap.size Z).drew.trans (hb1.mono (by show X.heap.size ≤ Z.heap.size; omega))))
            repeat (first | with_reducible exact unhide HB9 | with_reducible refine bdrew ?_ | (with_reducible refine bset ?_ ?_; (focus (first | omega | (simp; done) | (simp; omega)))))
        · rintro Y ⟨kJ, kR, kE, hbY⟩
          clear hxJ hfJ hxB hfB hxR hfR hxE hfE KJ KB KR KE rule1 rule2 hC1 hC2 hC3 hC4 hxE1 hfE1 lE1 hs1 hb1 HB l0 l2 l3 hZ HCS HP2
          have HB := hide hbY
          have KR := hide kR
          have KE := hide kE
          obtain ⟨hxJ, hfJ⟩ := block_facts kJ
          obtain ⟨hxE, hfE⟩ := block_facts kE
          have l0 := (Array.getElem?_eq_some_iff.1 kJ).1
          have l3 := (Array.getElem?_eq_some_iff.1 kE).1
          have hsY := hbY.size
          clear hbY kJ kR kE
          go_wp2_with fail
          refine (unhide HCH _).mono ?_
          rintro e w7 ⟨rfl, hb7⟩
          have kE7 := kept_block hb7 (unhide KE)
          have kR7 := kept_block hb7 (unhide KR)
          obtain ⟨hxE7, hfE7⟩ := block_facts kE7
          obtain ⟨hxR7, hfR7⟩ := block_facts kR7
          have l37 := (Array.getElem?_eq_some_iff.1 kE7).1
          have l27 := (Array.getElem?_eq_some_iff.1 kR7).1
          have HB1 := HB
          have HB := hide ((unhide HB1).trans (hb7.mono hsY))
          clear hb7 hxJ hfJ hxE hfE l0 l3 kE7 kR7 HCH HB1 KE KR
          go_wp2
          refine bodyPost_ret (v := evV ((1 : Int) + (5 : Nat)) m C cut torn) (by simp [results, Tryz.results44, go_sem, *]) rfl ⟨rfl, ?_⟩
          repeat (first | with_reducible exact unhide HB | with_reducible exact Below.refl _ _ | with_reducible refine bdrew ?_ | (with_reducible refine brow ?_ ?_; (focus (first | omega | (simp; done) | (simp; omega)))) | (with_reducible refine bset ?_ ?_; (focus (first | omega | (simp; done) | (simp; omega)))) | (with_reducible refine balloc ?_ ?_; (focus (first | omega | (simp; done) | (simp; omega)))) | (with_reducible refine bvia (unhide HB1) ?_ ?_; (focus (first | omega | (simp; done) | (simp; omega)))) | (with_reducible refine bvia (unhide HB2) ?_ ?_; (focus (first | omega | (simp; done) | (simp; omega)))) | (with_reducible refine bvia (unhide HB3) ?_ ?_; (focus (first | omega | (simp; done) | (simp; omega)))) | (with_reducible refine bvia (unhide HB4) ?_ ?_; (focus (first | omega | (simp; done) | (simp; omega)))) | (with_reducible refine bvia (unhide HB5) ?_ ?_; (focus (first | omega | (simp; done) | (simp; omega)))) | (with_reducible refine bvia (unhide HB6) ?_ ?_; (focus (first | omega | (simp; done) | (simp; omega)))))
/-- a blow as an event -/
theorem event_any {j : M.Job} (hj : M.JobOk j) (ex : ByteArray) (k n cut torn : Int) (hk : -9223372036854775808 ≤ k ∧ k ≤ 9223372036854775807) (hn : -9223372036854775808 ≤ n ∧ n ≤ 9223372036854775807) (X : World) :
    Calls Tryz.prog 44 #[jobV j ex, .agg #[.int .i64 k, .int .i64 n, .int .i64 cut, .int .i64 torn]] X fun e w' => e = .returned (evV (M.blowK k) (M.blowN j k n) (M.blowT j k n) cut torn) ∧ Below X.heap.size X w' := by
  have hpk := fun Y : World => kPick_any k 7 Y hk.1 hk.2 (by omega) (by omega)
  have hc := M.job_chunks hj
  have hp := M.pk_lt k 7 (by omega)
  have hm := M.pk_lt n (M.chunksN j.patch.size) (by omega)
  have h16 : 16 * M.pk n (M.chunksN j.patch.size) ≤ j.patch.size := by
    generalize M.pk n (M.chunksN j.patch.size) = z at hm ⊢
    unfold M.chunksN at hm
    omega
  have eK : (M.blowK k : Int) = 1 + (M.pk k 7 : Int) := by unfold M.blowK; omega
  rw [eK]
  by_cases h5 : M.pk k 7 = 5
  · have eN : M.blowN j k n = M.pk n (M.chunksN j.patch.size) := by unfold M.blowN M.blowK; rw [if_pos (by omega)]
    have eT : M.blowT j k n = M.chunkT j (M.pk n (M.chunksN j.patch.size)) := by unfold M.blowT M.blowK; rw [if_neg (by omega), if_pos (by omega)]
    rw [eN, eT]
    exact event_six j ex k n cut torn _ X h5 _ _ _ hpk (fun Y => jobChunks_any j ex Y hj.most) (fun Y => kPick_any n (M.chunksN j.patch.size) Y hn.1 hn.2 (by omega) (by omega)) (fun Y => jobChunk_any j ex _ Y hj.most h16)
  · have eN : M.blowN j k n = 0 := by unfold M.blowN M.blowK; rw [if_neg (by omega)]
    rw [eN]
    by_cases h4 : M.pk k 7 = 4
    · have eT : M.blowT j k n = j.man := by unfold M.blowT M.blowK; rw [if_pos (by omega)]
      rw [eT]
      exact event_five j ex k n cut torn _ X h4 hpk
    · have eT : M.blowT j k n = ⟨#[]⟩ := by unfold M.blowT M.blowK; rw [if_neg (by omega), if_neg (by omega)]
      rw [eT]
      exact event_else j ex k n cut torn _ X hp h4 h5 hpk
end Go.Proofs.YtjfmiomopfjecabGreat

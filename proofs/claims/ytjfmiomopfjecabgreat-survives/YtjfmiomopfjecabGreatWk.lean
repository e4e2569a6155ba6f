/- Texts laid together: DevRun, KeepSt, KeepGo, KeepChg, KeepOwn, KeepWork, SumRef. -/
import Derived.Test.YtjfmiomopfjecabGreatWi
import Derived.Test.YtjfmiomopfjecabGreatWd
import Derived.Test.YtjfmiomopfjecabGreatWj
import Derived.ProofKit
import Derived.OpenShut
import Derived.ShutString
import Derived.Lib.SmallJoins
import Derived.ChangeSlices
import Derived.Test.YtjfmiomopfjecabGreatWh
import Derived.Test.YtjfmiomopfjecabGreatWb
import Derived.Test.YtjfmiomopfjecabGreatWa
import Derived.Test.YtjfmiomopfjecabGreatWc
import Derived.Test.YtjfmiomopfjecabGreatWe
import Derived.Test.YtjfmiomopfjecabGreatWf
import Derived.Test.YtjfmiomopfjecabGreatWg
/- A change in plain words: what its events come to, one by one, where the power holds. -/
namespace Go.Proofs.YtjfmiomopfjecabGreat.M

def evW (k n : Int) (t : ByteArray) : Ev := ⟨k, n, t, -1, 0⟩
/-- what is served: its version -/
def verP (j : Job) (ph : Nat) (up : Bool) : Nat := if ph = 2 then j.up else if up = true then j.up else j.base
structure St (j : Job) (d : Dev) (ph tr th : Nat) (up : Bool) : Prop where
  inv : Inv' d
  tz : Tz d.F
  sj : Sj j d.F
  key : d.key = j.key
  on : d.on = true
  phase : fld d.F 2 = ph
  tries : fld d.F 3 = tr
  bits : fld d.F 10 = th
  kept : verOf d.F (fld d.F 1) = if up = true then j.up else j.base
theorem St.served {j : Job} {d : Dev} {ph tr th : Nat} {up : Bool} (h : St j d ph tr th up) : verOf d.F (servedD d.F) = verP j ph up := by
  unfold servedD verP
  by_cases e : ph = 2
  · rw [h.phase, if_pos e, if_pos e]
    exact (h.sj.trial (h.phase.trans e)).2.2.2
  · rw [h.phase, if_neg e, if_neg e]
    exact h.kept
theorem St.img {j : Job} (hj : JobOk j) {d : Dev} {ph tr th : Nat} {up : Bool} (h : St j d ph tr th up) : imgOf d.F (servedD d.F) = if verP j ph up = j.up then j.now else j.old := by
  have hl := hj.less
  unfold servedD verP
  by_cases e : ph = 2
  · rw [h.phase, if_pos e, if_pos e, if_pos rfl]
    exact (h.sj.trial (h.phase.trans e)).2.2.1
  · rw [h.phase, if_neg e, if_neg e]
    have hk := h.kept
    cases up
    · rw [if_neg (by simp)] at hk
      have e2 : (if false = true then j.up else j.base) = j.base := if_neg (by simp)
      rw [e2, if_neg (by omega)]
      exact (kept_old hj h.sj hk).1
    · rw [if_pos rfl] at hk
      have e2 : (if true = true then j.up else j.base) = j.up := if_pos rfl
      rw [e2, if_pos rfl]
      rcases h.sj.kept with k | k
      · omega
      · exact k.1
theorem St.steady {j : Job} (hj : JobOk j) {d : Dev} {ph tr th : Nat} (h : St j d ph tr th true) : ph = 0 := by
  have hl := hj.less
  have hk := h.kept
  rw [if_pos rfl] at hk
  have hp := h.inv.2.1.phase
  have h1 : fld d.F 2 ≠ 1 := fun e => by have := (h.sj.fetch e).2.1; omega
  have h2 : fld d.F 2 ≠ 2 := fun e => by have := (h.sj.trial e).2.1; omega
  have := h.phase
  omega
theorem doM_whole {d : Dev} {e : Ev} (h : e.cut < 0) : doM d e = (⟨d.key, puts d.F (planned d e).ws, (planned d e).on, (planned d e).wait, (planned d e).next, (planned d e).age⟩,
     ⟨(planned d e).err, if (planned d e).err = 0 ∧ (planned d e).on = true then verOf (puts d.F (planned d e).ws) (servedD (puts d.F (planned d e).ws)) else 0, (planned d e).text, (planned d e).ask⟩) := by
  unfold doM
  rw [if_neg]
  unfold cuts
  simp
  omega
/-- an event of a change, played to its end -/
theorem st_step {j : Job} (hj : JobOk j) {d : Dev} {ph tr th : Nat} {up : Bool} (h : St j d ph tr th up) {k n : Int} {t : ByteArray} (he : JobEv j (evW k n t)) {p : Plan} (hp : planned d (evW k n t) = p) (herr : p.err = 0) (hon : p.on = true) (htx : p.text = ⟨#[]⟩)
    {ph' tr' th' : Nat} {up' : Bool} (h2 : fld (puts d.F p.ws) 2 = ph') (h3 : fld (puts d.F p.ws) 3 = tr') (h10 : fld (puts d.F p.ws) 10 = th') (hk : verOf (puts d.F p.ws) (fld (puts d.F p.ws) 1) = if up' = true then j.up else j.base) :
    ∃ d', doM d (evW k n t) = (d', ⟨0, verP j ph' up', ⟨#[]⟩, p.ask⟩) ∧ St j d' ph' tr' th' up' ∧ d'.wait = p.wait ∧ d'.next = p.next ∧ d'.age = p.age := by
  have e := doM_whole (d := d) (e := evW k n t) (by show (-1 : Int) < 0; omega)
  have i1 := inv_do h.inv (evW k n t)
  have i2 := tz_do h.inv h.tz (evW k n t)
  have i3 := s_do hj h.inv h.sj he
  rw [e] at i1 i2 i3
  rw [hp] at e i1 i2 i3
  have hs : St j ⟨d.key, puts d.F p.ws, p.on, p.wait, p.next, p.age⟩ ph' tr' th' up' := ⟨i1, i2, i3, h.key, hon, h2, h3, h10, hk⟩
  refine ⟨_, ?_, hs, rfl, rfl, rfl⟩
  rw [e, herr, htx, if_pos ⟨rfl, hon⟩]
  have := hs.served
  rw [this]
theorem noteW_flds {F : Nat → Nat} {w N : Nat} (h : RecIs F w N) (os : List Wr) (ho : ∀ x ∈ os, 2 ≤ x.1) (kept phase tries l0 l1 a b c d th : Nat) :
    ∀ i, i < 16 → fld (puts F (os ++ [noteW F 0 kept phase tries l0 l1 a b c d th])) i = recB ((N + 1) % 256) kept phase tries l0 l1 a b c d th i := by
  rw [noteW_is h]
  exact (all_written h os ho kept phase tries l0 l1 a b c d th).2.1
theorem ver_flds {F G : Nat → Nat} (h6 : fld G 6 = fld F 6) (h7 : fld G 7 = fld F 7) (h8 : fld G 8 = fld F 8) (h9 : fld G 9 = fld F 9) {s : Nat} (hs : s ≤ 1) : verOf G s = verOf F s := by
  have hc : s = 0 ∨ s = 1 := by omega
  rcases hc with rfl | rfl
  · show 256 * fld G 6 + fld G 7 = 256 * fld F 6 + fld F 7
    rw [h6, h7]
  · show 256 * fld G 8 + fld G 9 = 256 * fld F 8 + fld F 9
    rw [h8, h9]
/-- behind a record in which lengths and versions stay -/
theorem note_view {F : Nat → Nat} {w N : Nat} (h : RecIs F w N) (os : List Wr) (ho : ∀ x ∈ os, 2 ≤ x.1) (kept phase tries th : Nat) (hk : kept ≤ 1) :
    fld (puts F (os ++ [noteW F 0 kept phase tries (fld F 4) (fld F 5) (fld F 6) (fld F 7) (fld F 8) (fld F 9) th])) 2 = phase ∧ fld (puts F (os ++ [noteW F 0 kept phase tries (fld F 4) (fld F 5) (fld F 6) (fld F 7) (fld F 8) (fld F 9) th])) 3 = tries ∧
    fld (puts F (os ++ [noteW F 0 kept phase tries (fld F 4) (fld F 5) (fld F 6) (fld F 7) (fld F 8) (fld F 9) th])) 10 = th ∧
    verOf (puts F (os ++ [noteW F 0 kept phase tries (fld F 4) (fld F 5) (fld F 6) (fld F 7) (fld F 8) (fld F 9) th])) (fld (puts F (os ++ [noteW F 0 kept phase tries (fld F 4) (fld F 5) (fld F 6) (fld F 7) (fld F 8) (fld F 9) th])) 1) = verOf F kept := by
  have e := noteW_flds h os ho kept phase tries (fld F 4) (fld F 5) (fld F 6) (fld F 7) (fld F 8) (fld F 9) th
  have e1 : fld (puts F (os ++ [noteW F 0 kept phase tries (fld F 4) (fld F 5) (fld F 6) (fld F 7) (fld F 8) (fld F 9) th])) 1 = kept := e 1 (by omega)
  refine ⟨e 2 (by omega), e 3 (by omega), e 10 (by omega), ?_⟩
  rw [e1]
  exact ver_flds (e 6 (by omega)) (e 7 (by omega)) (e 8 (by omega)) (e 9 (by omega)) hk
theorem no_os : ∀ x ∈ ([] : List Wr), 2 ≤ x.1 := fun x hx => by cases hx
theorem planned_on {d : Dev} (hon : d.on = true) {k n : Int} {t : ByteArray} (hk : 3 ≤ k) (hk7 : k ≤ 7) : planned d (evW k n t) = if k = 3 then ticks d else if k = 4 then infers d t else if k = 5 then offers d t else if k = 6 then takes d n t else confirms d := by
  unfold planned evW
  dsimp only
  rw [if_neg (by omega), if_neg (by omega), if_neg (by rw [hon]; simp), if_neg (by omega), if_neg (by omega)]
section
variable {j : Job} {d : Dev} {ph tr th : Nat} {up : Bool}
theorem st_offer (hj : JobOk j) (h : St j d ph tr th false) (hp : ph ≠ 2) :
    ∃ d', doM d (evW 5 0 j.man) = (d', ⟨0, j.base, ⟨#[]⟩, -1⟩) ∧ St j d' 1 0 0 false ∧ d'.wait = 0 ∧ d'.next = 1 ∧ d'.age = d.age := by
  obtain ⟨⟨w, N, hr⟩, hg, _⟩ := h.inv
  have hph := h.phase
  have htr : fld d.F 3 = 0 := h.tz (by omega)
  have hk := h.kept
  rw [if_neg (by simp)] at hk
  have hk1 := hg.kept
  have hin : ∀ x ∈ manPages j.man, 2 ≤ x.1 := fun x hx => (manPages_in hx).1
  have hpl : planned d (evW 5 0 j.man) = ⟨(if fld d.F 2 = 1 then [sameW d.F 0 0 (fld d.F 3)] else []) ++ manPages j.man ++ [sameW d.F (if fld d.F 2 = 1 then 1 else 0) 1 (fld d.F 3)], 0, ⟨#[]⟩, -1, 0, 1, d.age, d.on⟩ := by
    rw [planned_on h.on (by omega) (by omega), if_neg (by omega), if_neg (by omega), if_pos rfl]
    unfold offers
    have hm := hj.man
    rw [← h.key] at hm
    rw [if_neg (by omega), if_neg (by rw [hm]; simp), if_neg]
    · rfl
    · unfold keptV
      rw [hk, hj.m0, hj.m2]
      have := hj.less
      omega
  have hview : fld (puts d.F ((if fld d.F 2 = 1 then [sameW d.F 0 0 (fld d.F 3)] else []) ++ manPages j.man ++ [sameW d.F (if fld d.F 2 = 1 then 1 else 0) 1 (fld d.F 3)])) 2 = 1 ∧
      fld (puts d.F ((if fld d.F 2 = 1 then [sameW d.F 0 0 (fld d.F 3)] else []) ++ manPages j.man ++ [sameW d.F (if fld d.F 2 = 1 then 1 else 0) 1 (fld d.F 3)])) 3 = 0 ∧
      fld (puts d.F ((if fld d.F 2 = 1 then [sameW d.F 0 0 (fld d.F 3)] else []) ++ manPages j.man ++ [sameW d.F (if fld d.F 2 = 1 then 1 else 0) 1 (fld d.F 3)])) 10 = 0 ∧
      verOf (puts d.F ((if fld d.F 2 = 1 then [sameW d.F 0 0 (fld d.F 3)] else []) ++ manPages j.man ++ [sameW d.F (if fld d.F 2 = 1 then 1 else 0) 1 (fld d.F 3)])) (fld (puts d.F ((if fld d.F 2 = 1 then [sameW d.F 0 0 (fld d.F 3)] else []) ++ manPages j.man ++ [sameW d.F (if fld d.F 2 = 1 then 1 else 0) 1 (fld d.F 3)])) 1) = verOf d.F (fld d.F 1) := by
    by_cases e4 : fld d.F 2 = 1
    · rw [if_pos e4, if_pos e4]
      obtain ⟨hr1, hg1, hp1, q1, hn⟩ := after_same hr hg hg.tries
      have v0 := note_view hr [] no_os (fld d.F 1) 0 (fld d.F 3) 0 hk1
      have v := note_view hr1 (manPages j.man) hin (fld (puts d.F [sameW d.F 0 0 (fld d.F 3)]) 1) 1 (fld d.F 3) 0 (by rw [q1]; exact hk1)
      rw [htr] at v v0 hn ⊢
      rw [htr] at q1
      have e : puts d.F ([sameW d.F 0 0 0] ++ manPages j.man ++ [sameW d.F 1 1 0]) = puts (puts d.F [sameW d.F 0 0 0]) (manPages j.man ++ [sameW (puts d.F [sameW d.F 0 0 0]) 0 1 0]) := by
        rw [hn, List.append_assoc, puts_append]
      rw [e]
      refine ⟨v.1, v.2.1, v.2.2.1, v.2.2.2.trans ?_⟩
      exact v0.2.2.2
    · rw [if_neg e4, if_neg e4]
      have v := note_view hr (manPages j.man) hin (fld d.F 1) 1 (fld d.F 3) 0 hk1
      rw [htr] at v ⊢
      exact v
  obtain ⟨v1, v2, v3, v4⟩ := hview
  obtain ⟨d', a1, a2, a3, a4, a5⟩ := st_step hj h (.inr (.inl ⟨rfl, rfl⟩)) hpl rfl h.on rfl v1 v2 v3 (up' := false) (by rw [v4, hk]; simp)
  exact ⟨d', a1, a2, a3, a4, a5⟩
/-- the chunks that are there behind one more -/
def withBit (th i : Nat) : Nat := if th / 2 ^ i % 2 = 1 then th else th + 2 ^ i
theorem st_chunk (hj : JobOk j) (h : St j d 1 tr th false) {i : Nat} (hi : i < chunksN j.patch.size) :
    ∃ d', doM d (evW 6 i (chunkT j i)) = (d', ⟨0, j.base, ⟨#[]⟩, -1⟩) ∧ St j d' 1 0 (withBit th i) false ∧ d'.age = d.age ∧ (if th / 2 ^ i % 2 = 1 then d'.wait = d.wait ∧ d'.next = d.next else d'.wait = 0 ∧ d'.next = 1) := by
  obtain ⟨⟨w, N, hr⟩, hg, _⟩ := h.inv
  have hph := h.phase
  have htr : fld d.F 3 = 0 := h.tz (by omega)
  have hk := h.kept
  rw [if_neg (by simp)] at hk
  have hk1 := hg.kept
  have hb := h.bits
  obtain ⟨_, _, hm, _⟩ := h.sj.fetch hph
  have hm4 : mf d.F 4 = j.patch.size := by rw [hm 4 (by omega)]; exact hj.m4
  have hc6 : chunksN j.patch.size ≤ 6 := chunks_le hj.most
  have hje : JobEv j (evW 6 i (chunkT j i)) := .inr (.inr ⟨i, rfl, hi, rfl, rfl⟩)
  have hpl0 : planned d (evW 6 i (chunkT j i)) = if fld d.F 10 / 2 ^ i % 2 = 1 then idle d else ⟨[textW (5 + i) (chunkT j i) 0, noteW d.F 0 (fld d.F 1) 1 (fld d.F 3) (fld d.F 4) (fld d.F 5) (fld d.F 6) (fld d.F 7) (fld d.F 8) (fld d.F 9) (fld d.F 10 + 2 ^ i)], 0, ⟨#[]⟩, -1, 0, 1, d.age, d.on⟩ := by
    rw [planned_on h.on (by omega) (by omega), if_neg (by omega), if_neg (by omega), if_neg (by omega), if_pos rfl]
    unfold takes
    rw [if_neg (by omega), if_neg]
    · rw [Int.toNat_natCast]
    · rw [Int.toNat_natCast, hm4, chunk_size, hm _ (by omega), hm _ (by omega), hj.chunk i hi]
      omega
  by_cases e : th / 2 ^ i % 2 = 1
  · have hpl : planned d (evW 6 i (chunkT j i)) = idle d := by rw [hpl0, hb, if_pos e]
    obtain ⟨d', a1, a2, a3, a4, a5⟩ := st_step hj h hje hpl rfl h.on rfl (ph' := 1) (tr' := 0) (th' := withBit th i) (up' := false) hph htr (by unfold withBit; rw [if_pos e]; exact hb) (by show verOf d.F (fld d.F 1) = _; rw [hk]; simp)
    refine ⟨d', a1, a2, a5, ?_⟩
    rw [if_pos e]
    exact ⟨a3, a4⟩
  · have hpl : planned d (evW 6 i (chunkT j i)) = ⟨[textW (5 + i) (chunkT j i) 0] ++ [noteW d.F 0 (fld d.F 1) 1 (fld d.F 3) (fld d.F 4) (fld d.F 5) (fld d.F 6) (fld d.F 7) (fld d.F 8) (fld d.F 9) (fld d.F 10 + 2 ^ i)], 0, ⟨#[]⟩, -1, 0, 1, d.age, d.on⟩ := by
      rw [hpl0, if_neg (by rw [hb]; exact e)]
      rfl
    have v := note_view hr [textW (5 + i) (chunkT j i) 0] (by intro x hx; simp only [List.mem_cons, List.not_mem_nil, or_false] at hx; subst hx; show 2 ≤ 5 + i; omega) (fld d.F 1) 1 (fld d.F 3) (fld d.F 10 + 2 ^ i) hk1
    obtain ⟨d', a1, a2, a3, a4, a5⟩ := st_step hj h hje hpl rfl h.on rfl (ph' := 1) (tr' := 0) (th' := withBit th i) (up' := false) v.1 (v.2.1.trans htr) (by rw [v.2.2.1, hb]; unfold withBit; rw [if_neg e]) (by rw [v.2.2.2, hk]; simp)
    refine ⟨d', a1, a2, a5, ?_⟩
    rw [if_neg e]
    exact ⟨a3, a4⟩
theorem missing_nil {F : Nat → Nat} (h : ∀ i, i < chunksN (mf F 4) → fld F 10 / 2 ^ i % 2 = 1) : missing F = [] := by
  unfold missing
  rw [List.filter_eq_nil_iff]
  intro i hi
  rw [List.mem_range] at hi
  have := h i hi
  simp
  omega
theorem st_install (hj : JobOk j) (h : St j d 1 tr th false) (hall : ∀ i, i < chunksN j.patch.size → th / 2 ^ i % 2 = 1) :
    ∃ d', doM d (evW 3 0 ⟨#[]⟩) = (d', ⟨0, j.up, ⟨#[]⟩, -1⟩) ∧ St j d' 2 3 0 false ∧ d'.age = 0 := by
  obtain ⟨⟨w, N, hr⟩, hg, _⟩ := h.inv
  have hph := h.phase
  have hb := h.bits
  have hk1 := hg.kept
  obtain ⟨_, _, hm, _⟩ := h.sj.fetch hph
  have hm4 : mf d.F 4 = j.patch.size := by rw [hm 4 (by omega)]; exact hj.m4
  have hmiss : missing d.F = [] := missing_nil fun i hi => by rw [hb]; rw [hm4] at hi; exact hall i hi
  have hbu := built_job hj h.sj hph hmiss
  have hsz := image_size hj.now
  have hin : ∀ x ∈ slotW (1 - fld d.F 1) j.now, 2 ≤ x.1 := fun x hx => by have := slotW_in (by omega) hx; omega
  have hje : JobEv j (evW 3 0 ⟨#[]⟩) := .inl ⟨by show (3 : Int) ≠ 5; omega, by show (3 : Int) ≠ 6; omega⟩
  have hpl : planned d (evW 3 0 ⟨#[]⟩) = ⟨slotW (1 - fld d.F 1) j.now ++
      [if 1 - fld d.F 1 = 0 then noteW d.F 0 1 2 3 j.now.size (fld d.F 5) (mf d.F 0) (mf d.F 1) (fld d.F 8) (fld d.F 9) 0
       else noteW d.F 0 0 2 3 (fld d.F 4) j.now.size (fld d.F 6) (fld d.F 7) (mf d.F 0) (mf d.F 1) 0], 0, ⟨#[]⟩, -1, d.wait, d.next, 0, d.on⟩ := by
    rw [planned_on h.on (by omega) (by omega), if_pos rfl]
    unfold ticks
    rw [if_neg (by omega), if_pos hph, hmiss]
    show installs d = _
    unfold installs
    rw [hbu]
    simp
  have hv : fld (puts d.F (slotW (1 - fld d.F 1) j.now ++
      [if 1 - fld d.F 1 = 0 then noteW d.F 0 1 2 3 j.now.size (fld d.F 5) (mf d.F 0) (mf d.F 1) (fld d.F 8) (fld d.F 9) 0
       else noteW d.F 0 0 2 3 (fld d.F 4) j.now.size (fld d.F 6) (fld d.F 7) (mf d.F 0) (mf d.F 1) 0])) 2 = 2 ∧ fld (puts d.F (slotW (1 - fld d.F 1) j.now ++
      [if 1 - fld d.F 1 = 0 then noteW d.F 0 1 2 3 j.now.size (fld d.F 5) (mf d.F 0) (mf d.F 1) (fld d.F 8) (fld d.F 9) 0
       else noteW d.F 0 0 2 3 (fld d.F 4) j.now.size (fld d.F 6) (fld d.F 7) (mf d.F 0) (mf d.F 1) 0])) 3 = 3 ∧ fld (puts d.F (slotW (1 - fld d.F 1) j.now ++
      [if 1 - fld d.F 1 = 0 then noteW d.F 0 1 2 3 j.now.size (fld d.F 5) (mf d.F 0) (mf d.F 1) (fld d.F 8) (fld d.F 9) 0
       else noteW d.F 0 0 2 3 (fld d.F 4) j.now.size (fld d.F 6) (fld d.F 7) (mf d.F 0) (mf d.F 1) 0])) 10 = 0 := by
    split
    · have e := noteW_flds hr (slotW (1 - fld d.F 1) j.now) hin 1 2 3 j.now.size (fld d.F 5) (mf d.F 0) (mf d.F 1) (fld d.F 8) (fld d.F 9) 0
      exact ⟨e 2 (by omega), e 3 (by omega), e 10 (by omega)⟩
    · have e := noteW_flds hr (slotW (1 - fld d.F 1) j.now) hin 0 2 3 (fld d.F 4) j.now.size (fld d.F 6) (fld d.F 7) (mf d.F 0) (mf d.F 1) 0
      exact ⟨e 2 (by omega), e 3 (by omega), e 10 (by omega)⟩
  have hkept : verOf (puts d.F (planned d (evW 3 0 ⟨#[]⟩)).ws) (fld (puts d.F (planned d (evW 3 0 ⟨#[]⟩)).ws) 1) = j.base := by
    have hs := s_do hj h.inv h.sj hje
    rw [doM_whole (by show (-1 : Int) < 0; omega)] at hs
    refine (hs.trial ?_).2.1
    show fld (puts d.F (planned d (evW 3 0 ⟨#[]⟩)).ws) 2 = 2
    rw [hpl]
    exact hv.1
  rw [hpl] at hkept
  obtain ⟨d', a1, a2, a3, a4, a5⟩ := st_step hj h hje hpl rfl h.on rfl hv.1 hv.2.1 hv.2.2 (up' := false) (by simpa using hkept)
  exact ⟨d', a1, a2, a5⟩
theorem tick_ev (j : Job) : JobEv j (evW 3 0 ⟨#[]⟩) := .inl ⟨by show (3 : Int) ≠ 5; omega, by show (3 : Int) ≠ 6; omega⟩
theorem st_older (hj : JobOk j) (h : St j d 2 tr th false) (ha : d.age + 1 < 5) : ∃ d', doM d (evW 3 0 ⟨#[]⟩) = (d', ⟨0, j.up, ⟨#[]⟩, -1⟩) ∧ St j d' 2 tr th false ∧ d'.age = d.age + 1 := by
  have hpl : planned d (evW 3 0 ⟨#[]⟩) = ⟨[], 0, ⟨#[]⟩, -1, d.wait, d.next, d.age + 1, d.on⟩ := by
    rw [planned_on h.on (by omega) (by omega), if_pos rfl]
    unfold ticks
    rw [if_pos h.phase, if_neg (by omega)]
  obtain ⟨d', a1, a2, a3, a4, a5⟩ := st_step hj h (tick_ev j) hpl rfl h.on rfl (up' := false) h.phase h.tries h.bits h.kept
  exact ⟨d', a1, a2, a5⟩
theorem st_over (hj : JobOk j) (h : St j d 2 tr th false) (ha : 5 ≤ d.age + 1) : ∃ d', doM d (evW 3 0 ⟨#[]⟩) = (d', ⟨0, j.base, ⟨#[]⟩, -1⟩) ∧ St j d' 0 0 0 false := by
  obtain ⟨⟨w, N, hr⟩, hg, _⟩ := h.inv
  have hpl : planned d (evW 3 0 ⟨#[]⟩) = ⟨[sameW d.F 0 0 0], 0, ⟨#[]⟩, -1, d.wait, d.next, d.age + 1, d.on⟩ := by
    rw [planned_on h.on (by omega) (by omega), if_pos rfl]
    unfold ticks
    rw [if_pos h.phase, if_pos ha]
  have v := note_view hr [] no_os (fld d.F 1) 0 0 0 hg.kept
  obtain ⟨d', a1, a2, a3, a4, a5⟩ := st_step hj h (tick_ev j) hpl rfl h.on rfl (up' := false) v.1 v.2.1 v.2.2.1 (v.2.2.2.trans h.kept)
  exact ⟨d', a1, a2⟩
theorem st_confirm (hj : JobOk j) (h : St j d 2 tr th false) : ∃ d', doM d (evW 7 0 ⟨#[]⟩) = (d', ⟨0, j.up, ⟨#[]⟩, -1⟩) ∧ St j d' 0 0 0 true := by
  obtain ⟨⟨w, N, hr⟩, hg, _⟩ := h.inv
  have hph := h.phase
  have hk1 := hg.kept
  have hpl : planned d (evW 7 0 ⟨#[]⟩) = ⟨[noteW d.F 0 (1 - fld d.F 1) 0 0 (fld d.F 4) (fld d.F 5) (fld d.F 6) (fld d.F 7) (fld d.F 8) (fld d.F 9) 0], 0, ⟨#[]⟩, -1, d.wait, d.next, d.age, d.on⟩ := by
    rw [planned_on h.on (by omega) (by omega), if_neg (by omega), if_neg (by omega), if_neg (by omega), if_neg (by omega)]
    unfold confirms
    rw [if_neg (by omega)]
  have v := note_view hr [] no_os (1 - fld d.F 1) 0 0 0 (by omega)
  obtain ⟨d', a1, a2, a3, a4, a5⟩ := st_step hj h (.inl ⟨by show (7 : Int) ≠ 5; omega, by show (7 : Int) ≠ 6; omega⟩) hpl rfl h.on rfl (up' := true) v.1 v.2.1 v.2.2.1 (v.2.2.2.trans (h.sj.trial hph).2.2.2)
  exact ⟨d', a1, a2⟩
/-- the power fails between two events -/
theorem st_off (h : St j d ph tr th up) : doM d (evW 1 0 ⟨#[]⟩) = ({ d with on := false }, ⟨0, 0, ⟨#[]⟩, -1⟩) := by
  rw [doM_whole (by show (-1 : Int) < 0; omega)]
  have hpl : planned d (evW 1 0 ⟨#[]⟩) = { idle d with on := false } := by
    unfold planned evW
    dsimp only
    rw [if_neg (by omega), if_neg (by omega), if_neg (by rw [h.on]; simp), if_pos rfl]
  rw [hpl]
  simp [idle, puts]
theorem boot_plan {d : Dev} (hoff : d.on = false) : planned d (evW 2 0 ⟨#[]⟩) = boots d := by
  unfold planned evW
  dsimp only
  rw [if_neg (by omega), if_neg (by rw [hoff]; simp), if_neg (by omega), if_neg (by omega), if_pos rfl]
/-- a device that is off, with the flash of a change -/
structure Sf (j : Job) (d : Dev) (ph tr th : Nat) (up : Bool) : Prop where
  inv : Inv' d
  tz : Tz d.F
  sj : Sj j d.F
  key : d.key = j.key
  off : d.on = false
  phase : fld d.F 2 = ph
  tries : fld d.F 3 = tr
  bits : fld d.F 10 = th
  kept : verOf d.F (fld d.F 1) = if up = true then j.up else j.base
theorem st_sf (h : St j d ph tr th up) : Sf j { d with on := false } ph tr th up := by
  have i1 := inv_do h.inv (evW 1 0 ⟨#[]⟩)
  rw [st_off h] at i1
  exact ⟨i1, h.tz, h.sj, h.key, rfl, h.phase, h.tries, h.bits, h.kept⟩
/-- it goes on again -/
theorem sf_boot (hj : JobOk j) (h : Sf j d ph tr th up) {ph' tr' th' : Nat} (hv : if ph = 2 then (if tr = 0 then ph' = 0 ∧ tr' = 0 ∧ th' = 0 else ph' = 2 ∧ tr' = tr - 1 ∧ th' = 0) else ph' = ph ∧ tr' = tr ∧ th' = th) :
    ∃ d', doM d (evW 2 0 ⟨#[]⟩) = (d', ⟨0, verP j ph' up, ⟨#[]⟩, -1⟩) ∧ St j d' ph' tr' th' up ∧ d'.wait = 0 ∧ d'.next = 1 ∧ d'.age = 0 := by
  obtain ⟨⟨w, N, hr⟩, hg, _⟩ := h.inv
  have hk1 := hg.kept
  have hph := h.phase
  have htr := h.tries
  have hje : JobEv j (evW 2 0 ⟨#[]⟩) := .inl ⟨by show (2 : Int) ≠ 5; omega, by show (2 : Int) ≠ 6; omega⟩
  have e := doM_whole (d := d) (e := evW 2 0 ⟨#[]⟩) (by show (-1 : Int) < 0; omega)
  have i1 := inv_do h.inv (evW 2 0 ⟨#[]⟩)
  have i2 := tz_do h.inv h.tz (evW 2 0 ⟨#[]⟩)
  have i3 := s_do hj h.inv h.sj hje
  rw [e] at i1 i2 i3
  rw [boot_plan h.off] at e i1 i2 i3
  have hf : fld (puts d.F (boots d).ws) 2 = ph' ∧ fld (puts d.F (boots d).ws) 3 = tr' ∧ fld (puts d.F (boots d).ws) 10 = th' ∧ verOf (puts d.F (boots d).ws) (fld (puts d.F (boots d).ws) 1) = verOf d.F (fld d.F 1) := by
    show fld (puts d.F (if fld d.F 2 = 2 then (if fld d.F 3 = 0 then [sameW d.F 0 0 0] else [sameW d.F 0 2 (fld d.F 3 - 1)]) else [])) 2 = ph' ∧ fld (puts d.F (if fld d.F 2 = 2 then (if fld d.F 3 = 0 then [sameW d.F 0 0 0] else [sameW d.F 0 2 (fld d.F 3 - 1)]) else [])) 3 = tr' ∧ fld (puts d.F (if fld d.F 2 = 2 then (if fld d.F 3 = 0 then [sameW d.F 0 0 0] else [sameW d.F 0 2 (fld d.F 3 - 1)]) else [])) 10 = th' ∧ verOf (puts d.F (if fld d.F 2 = 2 then (if fld d.F 3 = 0 then [sameW d.F 0 0 0] else [sameW d.F 0 2 (fld d.F 3 - 1)]) else [])) (fld (puts d.F (if fld d.F 2 = 2 then (if fld d.F 3 = 0 then [sameW d.F 0 0 0] else [sameW d.F 0 2 (fld d.F 3 - 1)]) else [])) 1) = verOf d.F (fld d.F 1)
    by_cases e2 : ph = 2
    · rw [if_pos e2] at hv
      rw [if_pos (hph.trans e2)]
      by_cases e3 : tr = 0
      · rw [if_pos e3] at hv
        rw [if_pos (htr.trans e3), hv.1, hv.2.1, hv.2.2]
        exact note_view hr [] no_os (fld d.F 1) 0 0 0 hk1
      · rw [if_neg e3] at hv
        rw [if_neg (by omega), hv.1, hv.2.1, hv.2.2, htr]
        exact note_view hr [] no_os (fld d.F 1) 2 (tr - 1) 0 hk1
    · rw [if_neg e2] at hv
      rw [if_neg (by omega), hv.1, hv.2.1, hv.2.2]
      exact ⟨hph, htr, h.bits, rfl⟩
  have hs : St j ⟨d.key, puts d.F (boots d).ws, (boots d).on, (boots d).wait, (boots d).next, (boots d).age⟩ ph' tr' th' up := ⟨i1, i2, i3, h.key, rfl, hf.1, hf.2.1, hf.2.2.1, hf.2.2.2.trans h.kept⟩
  refine ⟨_, ?_, hs, rfl, rfl, rfl⟩
  rw [e]
  have hsv := hs.served
  show ((_ : Dev), (⟨0, if (0 : Nat) = 0 ∧ true = true then verOf (puts d.F (boots d).ws) (servedD (puts d.F (boots d).ws)) else 0, ⟨#[]⟩, -1⟩ : Rp)) = _
  rw [if_pos ⟨rfl, rfl⟩, hsv]
theorem st_new (hj : JobOk j) : St j (newD j.key j.old j.base) 0 0 0 false := by
  have hb : j.base ≤ 65535 := by have := hj.less; have := hj.top; omega
  have n1 : fld (newF j.old j.base) 1 = 0 := by rw [newF_fld]; exact newF_nought (by omega) (by omega) (by omega) (by omega) (by omega) (by omega)
  have n2 : fld (newF j.old j.base) 2 = 0 := by rw [newF_fld]; exact newF_nought (by omega) (by omega) (by omega) (by omega) (by omega) (by omega)
  have n3 : fld (newF j.old j.base) 3 = 0 := by rw [newF_fld]; exact newF_nought (by omega) (by omega) (by omega) (by omega) (by omega) (by omega)
  have n10 : fld (newF j.old j.base) 10 = 0 := by rw [newF_fld]; exact newF_nought (by omega) (by omega) (by omega) (by omega) (by omega) (by omega)
  refine ⟨new_good hj.old hb, fun _ => n3, new_sj j, rfl, rfl, n2, n3, n10, ?_⟩
  show verOf (newF j.old j.base) (fld (newF j.old j.base) 1) = _
  rw [n1, newF_ver]
  simp
theorem st_infer (hj : JobOk j) (h : St j d ph tr th up) (q : ByteArray) (hq : q.size = 2 * bz (if verP j ph up = j.up then j.now else j.old) 1) :
    doM d (evW 4 0 q) = (d, ⟨0, verP j ph up, evalTxt (if verP j ph up = j.up then j.now else j.old) q, -1⟩) := by
  have hi : isImage (if verP j ph up = j.up then j.now else j.old) = true := by
    split
    · exact hj.now
    · exact hj.old
  have hn : evalNum (if verP j ph up = j.up then j.now else j.old) q = 0 := by
    unfold evalNum
    rw [hi, if_pos rfl, if_pos hq]
  rw [doM_whole (by show (-1 : Int) < 0; omega), planned_on h.on (by omega) (by omega), if_neg (by omega), if_pos rfl]
  unfold infers
  rw [h.img hj, hn]
  have hs := h.served
  have hon := h.on
  simp only [puts, List.foldl_nil]
  rw [if_pos ⟨rfl, hon⟩, hs]
  rfl
end
end Go.Proofs.YtjfmiomopfjecabGreat.M

/- A device that is played for a change: step by step. -/
namespace Go.Proofs.YtjfmiomopfjecabGreat
open Go.RowKit Go.Lib

section
variable {W : World} {r b : Nat} {j : M.Job} {ex inp : ByteArray} {d : M.Dev}
/-- a device in the midst of a change serves what it should -/
theorem serves_st (hj : M.JobOk j) (h : RunRel W r b j ex inp d) {ph tr th : Nat} {up : Bool} (hs : M.St j d ph tr th up) (hin : inp.size ≤ maxLen) :
    Calls Tryz.prog 15 #[.pointer (some ⟨r, 0, none⟩), .int .i64 (M.verP j ph up)] W fun e w' => Goes W r b j ex inp d e w' := by
  have himg := hs.img hj
  have hg := h.inv.2.1
  have hi : M.isImage (if M.verP j ph up = j.up then j.now else j.old) = true := by
    split
    · exact hj.now
    · exact hj.old
  have hsv : M.servedD d.F ≤ 1 := by
    have := hg.kept
    unfold M.servedD
    split <;> omega
  refine runServes_any h (M.verP j ph up) _ rfl hi hin ?_ (M.servedD d.F) hsv true _ _ _ _ _ (by unfold statOf; rw [if_pos hs.on]) hg.bytes ?_
  · have hq : (M.bytesOf (M.fillL inp (2 * M.bz (if M.verP j ph up = j.up then j.now else j.old) 1))).size = 2 * M.bz (if M.verP j ph up = j.up then j.now else j.old) 1 := by rw [M.bytesOf_size, M.fillL_length]
    refine (M.st_infer hj hs _ hq).trans ?_
    have e : evalTxt (if M.verP j ph up = j.up then j.now else j.old) (M.bytesOf (M.fillL inp (2 * M.bz (if M.verP j ph up = j.up then j.now else j.old) 1))) = M.evalOut (if M.verP j ph up = j.up then j.now else j.old) (M.bytesOf (M.fillL inp (2 * M.bz (if M.verP j ph up = j.up then j.now else j.old) 1))) := by
      unfold evalTxt
      rw [hi, if_pos rfl, if_pos hq]
    rw [e]
  · intro k hk
    rw [← himg] at hk ⊢
    have hk' : k < M.fld d.F (4 + M.servedD d.F) := by unfold M.imgOf at hk; rwa [M.mk_size] at hk
    unfold M.imgOf
    rw [M.bz_mk (fun j _ => hg.bytes _) hk']

abbrev jobV (j : M.Job) (ex : ByteArray) : Value := .agg #[.string j.key, .string j.old, .string j.now, .int .i64 j.base, .int .i64 j.up, .string j.patch, .string ex, .string j.man]
theorem jobChunks_any (j : M.Job) (ex : ByteArray) (X : World) (hp : j.patch.size ≤ 96) :
    Calls Tryz.prog 23 #[jobV j ex] X fun e w' => e = .returned (.int .i64 (M.chunksN j.patch.size)) ∧ Below X.heap.size X w' := by
  have HE : Hid ((M.chunksN j.patch.size : Int) = ((j.patch.size : Int) + 15) / 16) := by show _ = _; unfold M.chunksN; omega
  go_enter Tryz.func23, Tryz.ntmps23
  go_wp2
  go_ret
  exact ⟨ret_int (by rw [HE.out]; omega), (Below.refl _ _).alloc (Nat.le_refl _) _⟩
theorem chunk_first (j : M.Job) (i : Nat) : fstT (M.suf j.patch (16 * i)) 16 = M.chunkT j i := by
  unfold M.chunkT M.chunkLen
  refine M.bz_ext (by rw [fstT_size, M.mk_size, M.suf_size]) fun k hk => ?_
  rw [fstT_size, M.suf_size] at hk
  rw [fstT_bz _ _ _ (by omega), M.suf_bz, M.bz_mk (fun k _ => M.bz_lt _ _) (by omega)]
theorem jobChunk_any (j : M.Job) (ex : ByteArray) (i : Nat) (X : World) (hp : j.patch.size ≤ 96) (hi : 16 * i ≤ j.patch.size) :
    Calls Tryz.prog 21 #[jobV j ex, .int .i64 i] X fun e w' => e = .returned (.string (M.chunkT j i)) ∧ Below X.heap.size X w' := by
  have HE := hide (chunk_first j i)
  have hz := M.suf_size j.patch (16 * i)
  have HS : Hid (M.suf j.patch (16 * i) = j.patch.extract (i * 16) j.patch.size) := by show _ = _; rw [Nat.mul_comm]; rfl
  go_enter Tryz.func21, Tryz.ntmps21
  go_wp2_with fail
  rw [← HS.out]
  refine (kFirst_any (M.suf j.patch (16 * i)) 16 _ (by unfold maxLen; omega) (by omega)).mono ?_
  rintro e w' ⟨rfl, rfl⟩
  rw [HE.out]
  clear HE HS
  generalize hC : M.chunkT j i = C at *
  have HC := hide hC
  clear hC
  go_wp2
  go_ret
  exact ⟨ret_string HC.out.symm, (Below.refl _ _).alloc (Nat.le_refl _) _⟩
set_option maxRecDepth 10000 in
set_option maxHeartbeats 1000000 in
theorem runChunk_any (h : RunRel W r b j ex inp d) (i : Nat) (hp : j.patch.size ≤ 96) (hi : 16 * i ≤ j.patch.size) (hd : (M.doM d ⟨6, i, M.chunkT j i, -1, 0⟩).2 = ⟨0, j.base, ⟨#[]⟩, -1⟩) :
    Calls Tryz.prog 27 #[.pointer (some ⟨r, 0, none⟩), .int .i64 i] W fun e w' => Goes W r b j ex inp (M.doM d ⟨6, i, M.chunkT j i, -1, 0⟩).1 e w' := by
  have hcz : (M.chunkT j i).size ≤ 16 := by unfold M.chunkT M.chunkLen; rw [M.mk_size]; omega
  have HCH := hide (fun X : World => jobChunk_any j ex i X hp hi)
  have HG := hide (fun (X : World) (hX : RunRel X r b j ex inp d) => runGoes_any hX 6 i (M.chunkT j i) j.base (by unfold maxLen; omega) hd)
  have HR := hide h
  have K := hide h.run
  have rule2 : ∀ (X : World) (o : Nat), X.heap[r]? = some (.cells (runC b j ex inp true) 32 (0, 0)) → X.cell? ⟨r, o, none⟩ = (runC b j ex inp true)[o]? := fun X o h => cell_in h o
  clear h hd hp hi
  generalize (M.doM d ⟨6, i, M.chunkT j i, -1, 0⟩).1 = d' at *
  generalize M.chunkT j i = C at *
  go_enter Tryz.func27, Tryz.ntmps27
  go_wp2_with fail
  go_region_held3 (fun X => X.heap[r]? = some (.cells (runC b j ex inp true) 32 (0, 0))) (repeat (first | with_reducible exact hC2 | with_reducible exact hC1 | with_reducible exact unhide K | with_reducible refine drew_block ?_)) ((first | (go_at_call 21; refine (unhide HCH _).mono ?_; rintro y w1 ⟨rfl, hb1⟩; have hC1 := kept_block hb1 (drew_block (unhide K)); have HRW := hide ((unhide HR).kept ((Below.refl _ _).drew.trans hb1))) | (go_at_call 13; refine (unhide HG _ (unhide HRW)).mono ?_; rintro y w2 ⟨rfl, hr2, ho2⟩; have hC2 := hr2.run)))
  all_goals
    have HO := hide ((Only.of ((Below.refl W.heap.size W).drew.trans hb1)).trans ho2)
    have HR2 := hide hr2
    clear hr2 ho2 hC2 hC1 hb1 HRW HCH HG rule2
    go_wp2
    exact bodyPost_end (v := .tuple #[]) (by simp [results, Tryz.results27, go_sem]) rfl ⟨rfl, unhide HR2, unhide HO⟩
theorem withBit_has (x i : Nat) : M.withBit x i / 2 ^ i % 2 = 1 := by
  unfold M.withBit
  split
  · assumption
  · have : 0 < 2 ^ i := Nat.two_pow_pos i
    rw [Nat.add_div_right _ this]
    omega
theorem withBit_keeps {x i k : Nat} (hi : i < 6) (hk : k < 6) (h : x / 2 ^ k % 2 = 1) : M.withBit x i / 2 ^ k % 2 = 1 := by
  unfold M.withBit
  split
  · exact h
  · have hi' : i = 0 ∨ i = 1 ∨ i = 2 ∨ i = 3 ∨ i = 4 ∨ i = 5 := by omega
    have hk' : k = 0 ∨ k = 1 ∨ k = 2 ∨ k = 3 ∨ k = 4 ∨ k = 5 := by omega
    rcases hi' with rfl | rfl | rfl | rfl | rfl | rfl <;> rcases hk' with rfl | rfl | rfl | rfl | rfl | rfl <;> simp at * <;> omega
/-- a chunk is given -/
theorem chunk_st (hj : M.JobOk j) (h : RunRel W r b j ex inp d) {tr th : Nat} (hs : M.St j d 1 tr th false) {i : Nat} (hi : i < M.chunksN j.patch.size) :
    Calls Tryz.prog 27 #[.pointer (some ⟨r, 0, none⟩), .int .i64 i] W fun e w' => ∃ d', Goes W r b j ex inp d' e w' ∧ M.St j d' 1 0 (M.withBit th i) false := by
  obtain ⟨d', hd, hs', _⟩ := M.st_chunk hj hs hi
  have hd' : M.doM d ⟨6, i, M.chunkT j i, -1, 0⟩ = (d', ⟨0, j.base, ⟨#[]⟩, -1⟩) := hd
  have hr := runChunk_any h i hj.most (by unfold M.chunksN at hi; omega) (by rw [hd'])
  rw [hd'] at hr
  exact hr.mono fun e w' hh => ⟨d', hh, hs'⟩
theorem missing_none {F : Nat → Nat} {n : Nat} (hn : M.chunksN (M.mf F 4) = n) (h : ∀ i, i < n → M.fld F 10 / 2 ^ i % 2 = 1) : M.missing F = [] := by
  unfold M.missing
  rw [hn, List.filter_eq_nil_iff]
  intro a ha
  have := h a (List.mem_range.1 ha)
  simp [this]
set_option maxRecDepth 10000 in
set_option maxHeartbeats 1000000 in
/-- all chunks are given -/
theorem fed_st (hj : M.JobOk j) (h : RunRel W r b j ex inp d) {tr th : Nat} (hs : M.St j d 1 tr th false) :
    Calls Tryz.prog 24 #[.pointer (some ⟨r, 0, none⟩)] W fun e w' => ∃ (d' : M.Dev) (tr' th' : Nat), Goes W r b j ex inp d' e w' ∧ M.St j d' 1 tr' th' false ∧ ∀ i, i < M.chunksN j.patch.size → th' / 2 ^ i % 2 = 1 := by
  have hn6 : M.chunksN j.patch.size ≤ 6 := by have := hj.most; unfold M.chunksN; omega
  have HCS := hide (fun X : World => jobChunks_any j ex X hj.most)
  have HJ := hide hj
  have HR := hide h
  have HS := hide hs
  have hlt := h.lt
  clear h hs hj
  generalize hn : M.chunksN j.patch.size = n at *
  have HN := hide hn
  clear hn
  go_enter Tryz.func24, Tryz.ntmps24
  go_wp2_with fail
  go_loopw [2] (fun i wr => ∃ (k : Nat) (d' : M.Dev) (tr' th' : Nat), k ≤ n ∧ i = .int .i64 k ∧ RunRel wr r b j ex inp d' ∧ Only (· = b) W wr ∧ M.St j d' 1 tr' th' false ∧ ∀ q, q < k → th' / 2 ^ q % 2 = 1) (fun i _ => n - (intOf i).toNat)
  case atStart => exact ⟨0, d, tr, th, by omega, rfl, unhide HR, Only.of (Below.refl _ _), unhide HS, fun q hq => absurd hq (by omega)⟩
  case round =>
    clear HR HS
    obtain ⟨k, d1, tr1, th1, hk, rfl, hr1, ho1, hs1, hq1⟩ := hrel
    obtain ⟨hxr, hfr⟩ := block_facts hr1.run
    have HR1 := hide hr1
    have HO1 := hide ho1
    have HS1 := hide hs1
    have HQ1 := hide hq1
    have hsz := ho1.size
    clear hr1 ho1 hs1 hq1
    go_wp2_with fail
    refine (unhide HCS _).mono ?_
    rintro e w1 ⟨rfl, hb1⟩
    have HR2 := hide ((unhide HR1).kept hb1)
    have HO2 := hide ((unhide HO1).trans (Only.of hb1))
    clear hb1 hxr hfr HR1 HO1
    by_cases hlt6 : k < n
    · have HC := hide (chunk_st (unhide HJ) (unhide HR2) (unhide HS1) (i := k) (by rw [HN.out]; exact hlt6))
      go_wp2_with fail
      refine (unhide HC).mono ?_
      rintro e w2 ⟨d2, ⟨rfl, hr2, ho2⟩, hs2⟩
      have HR3 := hide hr2
      have HO3 := hide ((unhide HO2).trans ho2)
      have HS3 := hide hs2
      clear hr2 ho2 hs2 HC
      go_wp2
      go_roundw
      case rel =>
        refine ⟨k + 1, d2, 0, M.withBit th1 k, by omega, by go_num, unhide HR3, unhide HO3, unhide HS3, fun q hq => ?_⟩
        by_cases e : q = k
        · subst e; exact withBit_has _ _
        · exact withBit_keeps (by omega) (by omega) (unhide HQ1 q (by omega))
      case measure => simp [intOf]; omega
    · have hkn : k = n := by omega
      subst hkn
      have HST : Hid (statOf d1 = .agg #[.bool true, .int .i64 1, .int .i64 (M.servedD d1.F), .int .i64 (M.verOf d1.F (M.servedD d1.F)), .int .i64 (M.verOf d1.F (M.fld d1.F 1)), .int .i64 (M.fld d1.F 3), .int .i64 0]) := by
        show _ = _
        have hs := unhide HS1
        have hm : M.missing d1.F = [] := by
          refine missing_none (n := k) ?_ fun i hi => ?_
          · have hf := (hs.sj.fetch hs.phase).2.2.1 4 (by omega)
            rw [hf, (unhide HJ).m4, HN.out]
          · rw [hs.bits]; exact unhide HQ1 i hi
        unfold statOf
        rw [if_pos hs.on, if_pos hs.phase, hm]
        unfold statV
        rw [hs.phase]
        rfl
      have HSS := hide (runStatus_any (unhide HR2))
      rw [HST.out] at HSS
      go_wp2_with fail
      refine (unhide HSS).mono ?_
      rintro e w2 ⟨rfl, hb2⟩
      have HR3 := hide ((unhide HR2).kept hb2)
      have HO3 := hide ((unhide HO2).trans (Only.of hb2))
      clear hb2 HSS
      go_wp2_with fail
      refine (must_true _ _).mono ?_
      rintro e w' ⟨rfl, rfl⟩
      go_wp2
      exact bodyPost_end (v := .tuple #[]) (by simp [results, Tryz.results24, go_sem]) rfl ⟨d1, tr1, th1, ⟨rfl, (unhide HR3).kept ((Below.refl _ _).alloc (Nat.le_refl _) _), (unhide HO3).trans (only_alloc _ _ _)⟩, unhide HS1, unhide HQ1⟩
end
end Go.Proofs.YtjfmiomopfjecabGreat

/- A device that is played for a change: its events, one by one. -/
namespace Go.Proofs.YtjfmiomopfjecabGreat
open Go.RowKit Go.Lib

section
variable {W : World} {r b : Nat} {j : M.Job} {ex inp : ByteArray} {d : M.Dev} {ph tr th : Nat} {up : Bool}
theorem nought_le : (⟨#[]⟩ : ByteArray).size ≤ maxLen := by show 0 ≤ _; unfold maxLen; omega
theorem goes_of (h : RunRel W r b j ex inp d) {k n : Int} {tx : ByteArray} {ver : Nat} {d' : M.Dev} (ht : tx.size ≤ maxLen) (hd : M.doM d (M.evW k n tx) = (d', ⟨0, ver, ⟨#[]⟩, -1⟩)) :
    Calls Tryz.prog 13 #[.pointer (some ⟨r, 0, none⟩), .int .i64 k, .int .i64 n, .string tx, .int .i64 ver] W fun e w' => Goes W r b j ex inp d' e w' := by
  have hd' : M.doM d ⟨k, n, tx, -1, 0⟩ = (d', ⟨0, ver, ⟨#[]⟩, -1⟩) := hd
  have := runGoes_any h k n tx ver ht (by rw [hd'])
  rwa [hd'] at this
theorem offer_st (hj : M.JobOk j) (hm : j.man.size ≤ maxLen) (h : RunRel W r b j ex inp d) (hs : M.St j d ph tr th false) (hp : ph ≠ 2) :
    Calls Tryz.prog 13 #[.pointer (some ⟨r, 0, none⟩), .int .i64 5, .int .i64 0, .string j.man, .int .i64 j.base] W fun e w' => ∃ d', Goes W r b j ex inp d' e w' ∧ M.St j d' 1 0 0 false ∧ d'.wait = 0 ∧ d'.next = 1 := by
  obtain ⟨d', hd, hs', h1, h2, _⟩ := M.st_offer hj hs hp
  exact (goes_of h hm hd).mono fun e w' hh => ⟨d', hh, hs', h1, h2⟩
theorem install_st (hj : M.JobOk j) (h : RunRel W r b j ex inp d) (hs : M.St j d 1 tr th false) (hall : ∀ i, i < M.chunksN j.patch.size → th / 2 ^ i % 2 = 1) :
    Calls Tryz.prog 13 #[.pointer (some ⟨r, 0, none⟩), .int .i64 3, .int .i64 0, .string ⟨#[]⟩, .int .i64 j.up] W fun e w' => ∃ d', Goes W r b j ex inp d' e w' ∧ M.St j d' 2 3 0 false ∧ d'.age = 0 := by
  obtain ⟨d', hd, hs', h1⟩ := M.st_install hj hs hall
  exact (goes_of h nought_le hd).mono fun e w' hh => ⟨d', hh, hs', h1⟩
theorem older_st (hj : M.JobOk j) (h : RunRel W r b j ex inp d) (hs : M.St j d 2 tr th false) (ha : d.age + 1 < 5) :
    Calls Tryz.prog 13 #[.pointer (some ⟨r, 0, none⟩), .int .i64 3, .int .i64 0, .string ⟨#[]⟩, .int .i64 j.up] W fun e w' => ∃ d', Goes W r b j ex inp d' e w' ∧ M.St j d' 2 tr th false ∧ d'.age = d.age + 1 := by
  obtain ⟨d', hd, hs', h1⟩ := M.st_older hj hs ha
  exact (goes_of h nought_le hd).mono fun e w' hh => ⟨d', hh, hs', h1⟩
theorem over_st (hj : M.JobOk j) (h : RunRel W r b j ex inp d) (hs : M.St j d 2 tr th false) (ha : 5 ≤ d.age + 1) :
    Calls Tryz.prog 13 #[.pointer (some ⟨r, 0, none⟩), .int .i64 3, .int .i64 0, .string ⟨#[]⟩, .int .i64 j.base] W fun e w' => ∃ d', Goes W r b j ex inp d' e w' ∧ M.St j d' 0 0 0 false := by
  obtain ⟨d', hd, hs'⟩ := M.st_over hj hs ha
  exact (goes_of h nought_le hd).mono fun e w' hh => ⟨d', hh, hs'⟩
theorem confirm_st (hj : M.JobOk j) (h : RunRel W r b j ex inp d) (hs : M.St j d 2 tr th false) :
    Calls Tryz.prog 13 #[.pointer (some ⟨r, 0, none⟩), .int .i64 7, .int .i64 0, .string ⟨#[]⟩, .int .i64 j.up] W fun e w' => ∃ d', Goes W r b j ex inp d' e w' ∧ M.St j d' 0 0 0 true := by
  obtain ⟨d', hd, hs'⟩ := M.st_confirm hj hs
  exact (goes_of h nought_le hd).mono fun e w' hh => ⟨d', hh, hs'⟩
theorem again_st (hj : M.JobOk j) (h : RunRel W r b j ex inp d) (hs : M.St j d ph tr th up) {ph' tr' th' : Nat} (hv : if ph = 2 then (if tr = 0 then ph' = 0 ∧ tr' = 0 ∧ th' = 0 else ph' = 2 ∧ tr' = tr - 1 ∧ th' = 0) else ph' = ph ∧ tr' = tr ∧ th' = th) :
    Calls Tryz.prog 14 #[.pointer (some ⟨r, 0, none⟩), .int .i64 (M.verP j ph' up)] W fun e w' => ∃ d', Goes W r b j ex inp d' e w' ∧ M.St j d' ph' tr' th' up ∧ d'.wait = 0 ∧ d'.next = 1 ∧ d'.age = 0 := by
  have h1 : M.doM d ⟨1, 0, ⟨#[]⟩, -1, 0⟩ = ({ d with on := false }, ⟨0, 0, ⟨#[]⟩, -1⟩) := M.st_off hs
  obtain ⟨d', hd, hs', h3, h4, h5⟩ := M.sf_boot hj (M.st_sf hs) hv
  have h2 : M.doM { d with on := false } ⟨2, 0, ⟨#[]⟩, -1, 0⟩ = (d', ⟨0, M.verP j ph' up, ⟨#[]⟩, -1⟩) := hd
  have := runAgain_any h (M.verP j ph' up) (by rw [h1]) (by rw [h1]) (by rw [h1, h2])
  rw [h1, h2] at this
  exact this.mono fun e w' hh => ⟨d', hh, hs', h3, h4, h5⟩
theorem phase_st (h : RunRel W r b j ex inp d) (hs : M.St j d ph tr th up) {kv : Nat} (hk : (if up = true then j.up else j.base) = kv) :
    Calls Tryz.prog 16 #[.pointer (some ⟨r, 0, none⟩), .int .i64 ph, .int .i64 kv, .int .i64 tr] W fun e w' => e = .returned (.tuple #[]) ∧ Below W.heap.size W w' := by
  subst hk
  refine runPhase_any h ph _ tr (M.servedD d.F) (M.verOf d.F (M.servedD d.F)) (if M.fld d.F 2 = 1 then (M.missing d.F).length else 0 : Nat) ?_
  unfold statOf
  rw [if_pos hs.on]
  unfold statV
  rw [hs.phase, hs.tries, hs.kept]
/-- a run that has begun -/
def Begun (W : World) (j : M.Job) (ex inp : ByteArray) (e : Ending) (w' : World) : Prop :=
  ∃ (r b : Nat) (d : M.Dev), e = .returned (.pointer (some ⟨r, 0, none⟩)) ∧ RunRel w' r b j ex inp d ∧ M.St j d 0 0 0 false ∧ Below W.heap.size W w' ∧ W.heap.size ≤ r ∧ W.heap.size ≤ b
end
end Go.Proofs.YtjfmiomopfjecabGreat

/- A change as it is given; a row of memory that is handed in. -/
namespace Go.Proofs.YtjfmiomopfjecabGreat
open Go.RowKit Go.Lib

/-- a change as it is given -/
structure Chg where
  i1 : Int
  o1 : Int
  t1 : ByteArray
  s1 : ByteArray
  i2 : Int
  o2 : Int
  t2 : ByteArray
  s2 : ByteArray
  key : ByteArray
  base : Int
  up : Int
  diffed : Bool
  shown : Bool
  ask : ByteArray
abbrev chgV (c : Chg) : Value := .agg #[.int .i64 c.i1, .int .i64 c.o1, .string c.t1, .string c.s1, .int .i64 c.i2, .int .i64 c.o2, .string c.t2, .string c.s2, .string c.key, .int .i64 c.base, .int .i64 c.up, .bool c.diffed, .bool c.shown, .string c.ask]
theorem drew_cell {X : World} {a : Addr} {u : Value} (h : X.cell? a = some u) : X.drew.cell? a = some u := h
/-- the slice v of n elements is empty, or its cells are xs -/
def HoldsArg (w : World) (v : Value) (n : Nat) (xs : List Value) : Prop :=
  (∃ p cap, v = .slice p 0 cap ∧ n = 0) ∨ ∃ g off cap, v = .slice (some ⟨g, off, none⟩) n cap ∧ g < w.heap.size ∧ n ≤ cap ∧ cap ≤ maxLen ∧ ∀ j u, xs[j]? = some u → w.cell? ⟨g, off + j, none⟩ = some u
theorem HoldsArg.mono {w w' : World} {v : Value} {n : Nat} {xs : List Value} (h : HoldsArg w v n xs) (hb : Below w.heap.size w w') : HoldsArg w' v n xs := by
  rcases h with h | ⟨g, off, cap, hv, hg, h1, h2, h3⟩
  · exact .inl h
  · exact .inr ⟨g, off, cap, hv, Nat.lt_of_lt_of_le hg hb.size, h1, h2, fun j u hj => (hb.cell (p := ⟨g, off + j, none⟩) hg).trans (h3 j u hj)⟩
theorem HoldsArg.len {w : World} {v : Value} {n : Nat} {xs : List Value} (h : HoldsArg w v n xs) : n ≤ maxLen := by
  rcases h with ⟨_, _, _, h⟩ | ⟨g, off, cap, hv, hg, h1, h2, h3⟩
  · subst h; exact Nat.zero_le _
  · exact Nat.le_trans h1 h2
end Go.Proofs.YtjfmiomopfjecabGreat

/- What a law is handed: a change; a row of numbers. Opened, and shut. -/
namespace Go.Proofs.YtjfmiomopfjecabGreat
open Go.ChangeShapes Go.WideShapes Go.ChangeAt Go.RowKit Go.Joins
open Go.ChangeMaps (open_string shut_string)

structure ChgWf (c : Chg) : Prop where
  i1 : (Lit.int .i64 c.i1).wf = true
  o1 : (Lit.int .i64 c.o1).wf = true
  t1 : c.t1.size ≤ maxLen
  s1 : c.s1.size ≤ maxLen
  i2 : (Lit.int .i64 c.i2).wf = true
  o2 : (Lit.int .i64 c.o2).wf = true
  t2 : c.t2.size ≤ maxLen
  s2 : c.s2.size ≤ maxLen
  key : c.key.size ≤ maxLen
  base : (Lit.int .i64 c.base).wf = true
  up : (Lit.int .i64 c.up).wf = true
  ask : c.ask.size ≤ maxLen
abbrev chgD {H : Type} (c : Chg) : DataW H := .agg [.agg [.lit (.int .i64 c.i1), .lit (.int .i64 c.o1), .lit (.string c.t1.data.toList), .lit (.string c.s1.data.toList)], .agg [.lit (.int .i64 c.i2), .lit (.int .i64 c.o2), .lit (.string c.t2.data.toList), .lit (.string c.s2.data.toList)], .lit (.string c.key.data.toList), .lit (.int .i64 c.base), .lit (.int .i64 c.up), .lit (.bool c.diffed), .lit (.bool c.shown), .lit (.string c.ask.data.toList)]
theorem array14 {α : Type} {cs : Array α} (h : cs.size = 14) : ∃ c0 c1 c2 c3 c4 c5 c6 c7 c8 c9 c10 c11 c12 c13, cs = #[c0, c1, c2, c3, c4, c5, c6, c7, c8, c9, c10, c11, c12, c13] := by
  obtain ⟨l⟩ := cs
  match l, h with
  | [c0, c1, c2, c3, c4, c5, c6, c7, c8, c9, c10, c11, c12, c13], _ => exact ⟨c0, c1, c2, c3, c4, c5, c6, c7, c8, c9, c10, c11, c12, c13, rfl⟩
section
variable {H : Type} {enc : TypeId × Value → H} {w : World} {base : Nat} {spare : Nat → Bool} {held : Bool}
set_option maxRecDepth 100000 in
theorem openNet {n : Nat} {v0 v1 v2 v3 : Value} {y : DataW H × List MemPlace} (h : DataW.trod enc Tryz.prog w base spare held n 23 [v0, v1, v2, v3] = some y) :
    ∃ i o t s, v0 = .int .i64 i ∧ v1 = .int .i64 o ∧ v2 = .string t ∧ v3 = .string s ∧ y = (.agg [.lit (.int .i64 i), .lit (.int .i64 o), .lit (.string t.data.toList), .lit (.string s.data.toList)], []) ∧ (Lit.int .i64 i).wf = true ∧ (Lit.int .i64 o).wf = true ∧ t.size ≤ maxLen ∧ s.size ≤ maxLen := by
  have hci : Tryz.prog.cellsOf 3 = 1 := by kernel_rfl
  have hcs : Tryz.prog.cellsOf 9 = 1 := by kernel_rfl
  obtain ⟨y0, y1, y2, y3, m, hx, _, h0, h1, h2, h3⟩ := trod_struct4 Tryz.underlying23 h
  simp [hci, hcs] at h0 h1 h2 h3
  obtain ⟨i, e0, rfl, wi⟩ := DataW.trod_int Tryz.underlying3 h0
  obtain ⟨o, e1, rfl, wo⟩ := DataW.trod_int Tryz.underlying3 h1
  obtain ⟨t, e2, rfl, wt⟩ := DataW.trod_string Tryz.underlying9 h2
  obtain ⟨s, e3, rfl, ws⟩ := DataW.trod_string Tryz.underlying9 h3
  simp only [List.cons.injEq, and_true] at e0 e1 e2 e3
  exact ⟨i, o, t, s, e0, e1, e2, e3, hx, wi, wo, wt, ws⟩
set_option maxRecDepth 100000 in
theorem openChg {r : Reach} {b0 : Nat} {v : Value} {d : DataW H} {p : List MemPlace} (hv : Value.okWide Tryz.prog w r b0 25 v) (h : DataW.Trod enc Tryz.prog w base spare held 25 v d p) :
    ∃ c : Chg, v = chgV c ∧ d = chgD c ∧ p = [] ∧ ChgWf c := by
  have hcC : Tryz.prog.cellsOf 25 = 14 := by kernel_rfl
  have hcN : Tryz.prog.cellsOf 23 = 4 := by kernel_rfl
  have hci : Tryz.prog.cellsOf 3 = 1 := by kernel_rfl
  have hcs : Tryz.prog.cellsOf 9 = 1 := by kernel_rfl
  have hcb : Tryz.prog.cellsOf 4 = 1 := by kernel_rfl
  obtain ⟨cs, rfl, hsz⟩ := okWide_struct Tryz.underlying25 hv
  obtain ⟨c0, c1, c2, c3, c4, c5, c6, c7, c8, c9, c10, c11, c12, c13, rfl⟩ := array14 (hsz.trans hcC)
  obtain ⟨fuel, hf⟩ := h
  obtain ⟨xs, m, _, hx, _, hlen, hfd⟩ := DataW.trod_struct Tryz.underlying25 hf
  match xs, hlen with
  | [y0, y1, y2, y3, y4, y5, y6, y7], _ =>
    have h0 := hfd 0 _ rfl
    have h1 := hfd 1 _ rfl
    have h2 := hfd 2 _ rfl
    have h3 := hfd 3 _ rfl
    have h4 := hfd 4 _ rfl
    have h5 := hfd 5 _ rfl
    have h6 := hfd 6 _ rfl
    have h7 := hfd 7 _ rfl
    simp [Value.cells, hcN, hci, hcs, hcb] at h0 h1 h2 h3 h4 h5 h6 h7
    obtain ⟨i1, o1, t1, s1, rfl, rfl, rfl, rfl, rfl, a1, a2, a3, a4⟩ := openNet h0
    obtain ⟨i2, o2, t2, s2, rfl, rfl, rfl, rfl, rfl, b1, b2, b3, b4⟩ := openNet h1
    obtain ⟨key, e2, rfl, k2⟩ := DataW.trod_string Tryz.underlying9 h2
    obtain ⟨ba, e3, rfl, k3⟩ := DataW.trod_int Tryz.underlying3 h3
    obtain ⟨up, e4, rfl, k4⟩ := DataW.trod_int Tryz.underlying3 h4
    obtain ⟨df, e5, rfl⟩ := DataW.trod_bool Tryz.underlying4 h5
    obtain ⟨sh, e6, rfl⟩ := DataW.trod_bool Tryz.underlying4 h6
    obtain ⟨ask, e7, rfl, k7⟩ := DataW.trod_string Tryz.underlying9 h7
    simp only [List.cons.injEq, and_true] at e2 e3 e4 e5 e6 e7
    subst e2 e3 e4 e5 e6 e7
    simp only [Prod.mk.injEq] at hx
    exact ⟨⟨i1, o1, t1, s1, i2, o2, t2, s2, key, ba, up, df, sh, ask⟩, rfl, hx.1.trans (by simp), hx.2.trans (by simp), ⟨a1, a2, a3, a4, b1, b2, b3, b4, k2, k3, k4, k7⟩⟩
set_option maxRecDepth 100000 in
theorem shutChg {c : Chg} (hw : ChgWf c) : DataW.Trod enc Tryz.prog w base spare held 25 (chgV c) (chgD c) [] := by
  have hcC : Tryz.prog.cellsOf 25 = 14 := by kernel_rfl
  have hcN : Tryz.prog.cellsOf 23 = 4 := by kernel_rfl
  have hci : Tryz.prog.cellsOf 3 = 1 := by kernel_rfl
  have hcs : Tryz.prog.cellsOf 9 = 1 := by kernel_rfl
  have hcb : Tryz.prog.cellsOf 4 = 1 := by kernel_rfl
  obtain ⟨k0, k1, k2, k3, k4, k5, k6, k7, k8, k9, k10, k11⟩ := hw
  exact ⟨3, by simp [Value.cells, DataW.trod, Tryz.underlying25, Tryz.underlying23, Tryz.underlying3, Tryz.underlying9, Tryz.underlying4, hcC, hcN, hci, hcs, hcb, k0, k1, k2, k3, k4, k5, k6, k7, k8, k9, k10, k11]⟩
set_option maxRecDepth 100000 in
/-- a row of numbers that is handed in -/
theorem openInts {r : Reach} {b0 : Nat} {v : Value} {d : DataW H} {p : List MemPlace} (hv : Value.okWide Tryz.prog w r b0 49 v) (h : DataW.Trod enc Tryz.prog w base spare held 49 v d p) :
    ∃ l : List Int, HoldsArg w v l.length (intCells l) ∧ ∀ x ∈ l, (Lit.int .i64 x).wf = true := by
  obtain ⟨a0, len, cap, rfl⟩ := okWide_slice Tryz.underlying49 hv
  obtain ⟨fuel, hf⟩ := h
  rcases open_ints Tryz.underlying49 Tryz.underlying3 (by kernel_rfl) hf with ⟨e, _⟩ | ⟨a, n, cp, zs, e, hb, hl, hm, hz, hx, hc, hw⟩
  · simp [Value.cells] at e
    obtain ⟨rfl, rfl, rfl⟩ := e
    exact ⟨[], .inl ⟨_, _, rfl, rfl⟩, by simp⟩
  · simp [Value.cells] at e
    obtain ⟨rfl, rfl, rfl⟩ := e
    have hlz : len ≤ zs.length := by rw [hz]; split <;> omega
    by_cases h0 : len = 0
    · subst h0
      exact ⟨[], .inl ⟨_, _, rfl, rfl⟩, by simp⟩
    · obtain ⟨b, off, rfl, hc'⟩ := ints_at hc (by omega)
      have hlen : (zs.take len).length = len := by rw [List.length_take]; omega
      refine ⟨zs.take len, .inr ⟨b, off, cap, by rw [hlen], ?_, by omega, hm, ?_⟩, fun x hx => hw x (List.mem_of_mem_take hx)⟩
      · have := hc' 0 (by omega)
        exact World.block_lt_of_cell? w _ this
      · intro j u hj
        have hjl : j < len := by
          have := (List.getElem?_eq_some_iff.1 hj).1
          simpa [intCells, hlen] using (by rw [intCells_length, hlen] at this; exact this)
        rw [intCells_at (by omega)] at hj
        injection hj with hj
        subst hj
        rw [hc' j (by omega)]
        simp [List.getD, hjl]
end
end Go.Proofs.YtjfmiomopfjecabGreat

/- A change, worked out: the walk. -/
namespace Go.Proofs.YtjfmiomopfjecabGreat
open Go.RowKit Go.Lib

theorem fill8 {X : World} {q : Nat} {z0 z1 z2 z3 z4 z5 z6 z7 a0 a1 a2 a3 a4 a5 a6 a7 : Value} {t : TypeId} (h : X.heap[q]? = some (.cells #[z0, z1, z2, z3, z4, z5, z6, z7] t (0, 0))) :
    ((((((((X.setCell ⟨q, 0, none⟩ a0).setCell ⟨q, 1, none⟩ a1).setCell ⟨q, 2, none⟩ a2).setCell ⟨q, 3, none⟩ a3).setCell ⟨q, 4, none⟩ a4).setCell ⟨q, 5, none⟩ a5).setCell ⟨q, 6, none⟩ a6).setCell ⟨q, 7, none⟩ a7).heap[q]? = some (.cells #[a0, a1, a2, a3, a4, a5, a6, a7] t (0, 0)) :=
  by
  have h0 : (X.setCell ⟨q, 0, none⟩ a0).heap[q]? = some (.cells #[a0, z1, z2, z3, z4, z5, z6, z7] t (0, 0)) := (setCell_in h 0 a0).trans rfl
  have h1 : ((X.setCell ⟨q, 0, none⟩ a0).setCell ⟨q, 1, none⟩ a1).heap[q]? = some (.cells #[a0, a1, z2, z3, z4, z5, z6, z7] t (0, 0)) := (setCell_in h0 1 a1).trans rfl
  have h2 : (((X.setCell ⟨q, 0, none⟩ a0).setCell ⟨q, 1, none⟩ a1).setCell ⟨q, 2, none⟩ a2).heap[q]? = some (.cells #[a0, a1, a2, z3, z4, z5, z6, z7] t (0, 0)) := (setCell_in h1 2 a2).trans rfl
  have h3 : ((((X.setCell ⟨q, 0, none⟩ a0).setCell ⟨q, 1, none⟩ a1).setCell ⟨q, 2, none⟩ a2).setCell ⟨q, 3, none⟩ a3).heap[q]? = some (.cells #[a0, a1, a2, a3, z4, z5, z6, z7] t (0, 0)) := (setCell_in h2 3 a3).trans rfl
  have h4 : (((((X.setCell ⟨q, 0, none⟩ a0).setCell ⟨q, 1, none⟩ a1).setCell ⟨q, 2, none⟩ a2).setCell ⟨q, 3, none⟩ a3).setCell ⟨q, 4, none⟩ a4).heap[q]? = some (.cells #[a0, a1, a2, a3, a4, z5, z6, z7] t (0, 0)) := (setCell_in h3 4 a4).trans rfl
  have h5 : ((((((X.setCell ⟨q, 0, none⟩ a0).setCell ⟨q, 1, none⟩ a1).setCell ⟨q, 2, none⟩ a2).setCell ⟨q, 3, none⟩ a3).setCell ⟨q, 4, none⟩ a4).setCell ⟨q, 5, none⟩ a5).heap[q]? = some (.cells #[a0, a1, a2, a3, a4, a5, z6, z7] t (0, 0)) := (setCell_in h4 5 a5).trans rfl
  have h6 : (((((((X.setCell ⟨q, 0, none⟩ a0).setCell ⟨q, 1, none⟩ a1).setCell ⟨q, 2, none⟩ a2).setCell ⟨q, 3, none⟩ a3).setCell ⟨q, 4, none⟩ a4).setCell ⟨q, 5, none⟩ a5).setCell ⟨q, 6, none⟩ a6).heap[q]? = some (.cells #[a0, a1, a2, a3, a4, a5, a6, z7] t (0, 0)) := (setCell_in h5 6 a6).trans rfl
  have h7 : ((((((((X.setCell ⟨q, 0, none⟩ a0).setCell ⟨q, 1, none⟩ a1).setCell ⟨q, 2, none⟩ a2).setCell ⟨q, 3, none⟩ a3).setCell ⟨q, 4, none⟩ a4).setCell ⟨q, 5, none⟩ a5).setCell ⟨q, 6, none⟩ a6).setCell ⟨q, 7, none⟩ a7).heap[q]? = some (.cells #[a0, a1, a2, a3, a4, a5, a6, a7] t (0, 0)) := (setCell_in h6 7 a7).trans rfl
  exact h7
abbrev chgC (c : Chg) : Array Value := #[.int .i64 c.i1, .int .i64 c.o1, .string c.t1, .string c.s1, .int .i64 c.i2, .int .i64 c.o2, .string c.t2, .string c.s2, .string c.key, .int .i64 c.base, .int .i64 c.up, .bool c.diffed, .bool c.shown, .string c.ask]
set_option maxRecDepth 10000 in
set_option maxHeartbeats 4000000 in
theorem worked_00 (c : Chg) (W : World) (K1 O1 N1 P1 OP MN : ByteArray) (ba u : Nat) (hba : ba ≤ 65534) (hN : N1.size ≤ 96) (hP1 : P1.size = 1) (hOP : ⟨#[1]⟩ ++ P1 ++ N1 = OP)
    (hd : c.diffed = false) (he : c.shown = false)
    (h1 : ∀ X : World, Calls Tryz.prog 42 #[.string c.key, .int .i64 16] X fun e w' => e = .returned (.string K1) ∧ X = w')
    (h2 : ∀ X : World, Calls Tryz.prog 53 #[.agg #[.int .i64 c.i1, .int .i64 c.o1, .string c.t1, .string c.s1]] X fun e w' => e = .returned (.string O1) ∧ Below X.heap.size X w')
    (h3 : ∀ X : World, Calls Tryz.prog 53 #[.agg #[.int .i64 c.i2, .int .i64 c.o2, .string c.t2, .string c.s2]] X fun e w' => e = .returned (.string N1) ∧ Below X.heap.size X w')
    (h4 : ∀ X : World, Calls Tryz.prog 25 #[.int .i64 c.base, .int .i64 0, .int .i64 65534] X fun e w' => e = .returned (.int .i64 ba) ∧ X = w')
    (h5 : ∀ X : World, Calls Tryz.prog 25 #[.int .i64 c.up, .int .i64 ((ba : Int) + 1), .int .i64 65535] X fun e w' => e = .returned (.int .i64 u) ∧ X = w')
    (h6 : ∀ X : World, Calls Tryz.prog 40 #[.int .i64 N1.size] X fun e w' => e = .returned (.string P1) ∧ Below X.heap.size X w')
    (h12 : ∀ X : World, Calls Tryz.prog 20 #[.agg #[.string K1, .string O1, .string N1, .int .i64 ba, .int .i64 u, .string OP, .string ⟨#[0]⟩, .string ⟨#[]⟩], .int .i64 ba, .int .i64 u] X fun e w' => e = .returned (.string MN) ∧ Below X.heap.size X w') :
    Calls Tryz.prog 32 #[chgV c] W fun e w' => e = .returned (.tuple #[.agg #[.string K1, .string O1, .string N1, .int .i64 ba, .int .i64 u, .string OP, .string ⟨#[0]⟩, .string MN], .bool true]) ∧ Below W.heap.size W w' := by
  have H1 := hide h1
  have H2 := hide h2
  have H3 := hide h3
  have H4 := hide h4
  have H5 := hide h5
  have H6 := hide h6
  have H12 := hide h12
  have HOP := hide hOP
  have HD := hide hd
  have HE := hide he
  clear h1 h2 h3 h4 h5 h6 h12 hd he hOP
  have HBL : Hid (Below W.heap.size W ((W.alloc (.cells (chgC c) 25)).alloc (.cells #[.string ⟨#[]⟩, .string ⟨#[]⟩, .string ⟨#[]⟩, .int .i64 0, .int .i64 0, .string ⟨#[]⟩, .string ⟨#[]⟩, .string ⟨#[]⟩] 30)).drew) := (((Below.refl _ _).alloc (Nat.le_refl _) _).alloc (by simp) _).drew
  have hC := drew_block (first_block W (.cells (chgC c) 25) (.cells #[.string ⟨#[]⟩, .string ⟨#[]⟩, .string ⟨#[]⟩, .int .i64 0, .int .i64 0, .string ⟨#[]⟩, .string ⟨#[]⟩, .string ⟨#[]⟩] 30))
  have hR := drew_block (last_block (W.alloc (.cells (chgC c) 25)) (.cells #[.string ⟨#[]⟩, .string ⟨#[]⟩, .string ⟨#[]⟩, .int .i64 0, .int .i64 0, .string ⟨#[]⟩, .string ⟨#[]⟩, .string ⟨#[]⟩] 30) (n := W.heap.size + 1) (by simp))
  have hsz : W.heap.size + 2 ≤ (((W.alloc (.cells (chgC c) 25)).alloc (.cells #[.string ⟨#[]⟩, .string ⟨#[]⟩, .string ⟨#[]⟩, .int .i64 0, .int .i64 0, .string ⟨#[]⟩, .string ⟨#[]⟩, .string ⟨#[]⟩] 30)).drew).heap.size := by show _ ≤ ((W.alloc _).alloc _).heap.size; simp
  go_enter Tryz.func32, Tryz.ntmps32
  go_wp2_with fail
  refine cut_code (fun a X => ∃ (q : Nat) (x11 x12 x13 x14 x15 x16 x17 x18 x19 x20 : Value), a = ⟨#[chgV c, .pointer (some ⟨W.heap.size, 0, none⟩), .pointer (some ⟨W.heap.size + 1, 0, none⟩), .bool false, .pointer (some ⟨q, 0, none⟩), undef, undef, undef, undef, undef, undef, x11, x12, x13, x14, x15, x16, x17, x18, x19, x20, undef, undef, undef, undef, undef, undef, undef, undef, undef, undef, undef, undef, undef, undef, undef, undef, undef, undef, undef, undef, undef, undef, undef, undef, undef, undef, undef, undef, undef, undef, undef, undef, undef, undef, undef, undef, undef, undef, undef, undef, undef, undef, undef, undef, undef, undef, undef, undef, undef, undef, undef, undef, undef, undef, undef, undef, undef, undef, undef, undef, undef, undef, undef, undef, undef, undef, undef, undef, undef, undef, undef, undef, undef, undef, undef, undef, undef, undef, undef, undef, undef, undef, undef, undef, undef, undef], []⟩ ∧ X.heap[q]? = some (.cells #[.string K1, .string O1, .string N1, .int .i64 0, .int .i64 0, .string ⟨#[]⟩, .string ⟨#[]⟩, .string ⟨#[]⟩] 30 (0, 0)) ∧ X.heap[W.heap.size]? = some (.cells (chgC c) 25 (0, 0)) ∧ X.heap[W.heap.size + 1]? = some (.cells #[.string ⟨#[]⟩, .string ⟨#[]⟩, .string ⟨#[]⟩, .int .i64 0, .int .i64 0, .string ⟨#[]⟩, .string ⟨#[]⟩, .string ⟨#[]⟩] 30 (0, 0)) ∧ W.heap.size + 2 ≤ q ∧ Below W.heap.size W X) ?_ ?_
  · have rule2 : ∀ (X : World) (o : Nat), X.heap[W.heap.size]? = some (.cells (chgC c) 25 (0, 0)) → X.cell? ⟨W.heap.size, o, none⟩ = (chgC c)[o]? := fun X o h => cell_in h o
    go_region_held3 (fun X => X.heap[W.heap.size]? = some (.cells (chgC c) 25 (0, 0))) (repeat (first | with_reducible exact hC | with_reducible exact first_block _ _ _ | with_reducible refine ablk ?_ | with_reducible refine drew_block ?_ | (with_reducible refine sblk ?_ ?_; (focus omega)))) ((first
      | (go_at_call 42; with_reducible refine (unhide H1 _).mono ?_; rintro y wN ⟨rfl, rfl⟩)
      | (go_at_call 53; (first | with_reducible refine (unhide H2 _).mono ?_ | with_reducible refine (unhide H3 _).mono ?_); rintro y wN ⟨rfl, hbN⟩; (first | (have hK := kept_block hbN (last_block _ _ rfl)) | (have hK := kept_block hbN hK) | (have hK := kept_block hbN (drew_block (last_block _ _ rfl)))); (try simp only [World.size_alloc] at hK); have hNx := (block_facts hK).1; have hNf := (block_facts hK).2; have hNl := (Array.getElem?_eq_some_iff.1 hK).1; have hC : wN.heap[W.heap.size]? = some (.cells (chgC c) 25 (0, 0)) := kept_block hbN (by repeat (first | with_reducible exact hC | with_reducible exact first_block _ _ _ | with_reducible refine ablk ?_ | with_reducible refine drew_block ?_)); have hR : wN.heap[W.heap.size + 1]? = some (.cells #[.string ⟨#[]⟩, .string ⟨#[]⟩, .string ⟨#[]⟩, .int .i64 0, .int .i64 0, .string ⟨#[]⟩, .string ⟨#[]⟩, .string ⟨#[]⟩] 30 (0, 0)) := kept_block hbN (by repeat (first | with_reducible exact hR | (with_reducible refine last_block _ _ ?_; (focus (simp; done))) | with_reducible refine ablk ?_ | with_reducible refine drew_block ?_)); have HBL : Hid (Below W.heap.size W wN) := Below.trans (by repeat (first | with_reducible exact unhide HBL | with_reducible exact Below.refl _ _ | with_reducible refine bdrew ?_ | (with_reducible refine balloc ?_ ?_; (focus (first | omega | (simp; done) | (simp; omega)))))) (hbN.mono (by first | omega | (simp; done) | (simp; omega) | (show _ ≤ (World.alloc _ _).heap.size; simp; done) | (show _ ≤ (World.alloc _ _).heap.size; simp; omega))); have hsz : W.heap.size + 2 ≤ wN.heap.size := Nat.le_trans (by first | exact hsz | (simp; done) | (simp; omega) | (show _ ≤ (World.alloc _ _).heap.size; simp; done) | (show _ ≤ (World.alloc _ _).heap.size; simp; omega)) hbN.size)))
    all_goals
      have HBW := HBL
      refine ⟨rfl, _, _, _, _, _, _, _, _, _, _, _, rfl, ?_, ?_, ?_, ?_, ?_⟩
      · first | (with_reducible exact last_block _ _ rfl) | (with_reducible exact fill8 hK)
      · repeat (first | with_reducible exact hC | with_reducible refine ablk ?_ | with_reducible refine drew_block ?_ | (with_reducible refine sblk ?_ ?_; (focus (first | omega | (simp; done) | (simp; omega)))))
      · repeat (first | with_reducible exact hR | with_reducible refine ablk ?_ | with_reducible refine drew_block ?_ | (with_reducible refine sblk ?_ ?_; (focus (first | omega | (simp; done) | (simp; omega)))))
      · first | omega | (simp; done) | (simp; omega)
      · repeat (first | with_reducible exact unhide HBW | with_reducible refine bdrew ?_ | (with_reducible refine bset ?_ ?_; (focus (first | omega | (simp; done) | (simp; omega)))) | (with_reducible refine balloc ?_ ?_; (focus (first | omega | (simp; done) | (simp; omega)))))
  · rintro _ W4 ⟨q, x11, x12, x13, x14, x15, x16, x17, x18, x19, x20, rfl, qJ, qC, qR, hq, hbW⟩
    have hql := (Array.getElem?_eq_some_iff.1 qJ).1
    have n1 : ¬ W.heap.size = q := by omega
    have n2 : ¬ W.heap.size + 1 = q := by omega
    obtain ⟨hxC, hfC⟩ := block_facts qC
    obtain ⟨hxJ, hfJ⟩ := block_facts qJ
    have QJ := hide qJ
    have QC := hide qC
    have QR := hide qR
    have HBW := hide hbW
    clear qJ qC qR hbW HBL hC hR hsz H1 H2 H3
    go_wp2_with fail
    refine (unhide H4 _).mono ?_
    rintro e _ ⟨rfl, rfl⟩
    go_wp2_with fail
    refine (unhide H5 _).mono ?_
    rintro e _ ⟨rfl, rfl⟩
    go_wp2_with fail
    have QJ2 : Hid (((W4.setCell ⟨q, 3, none⟩ (.int .i64 ba)).setCell ⟨q, 4, none⟩ (.int .i64 u)).heap[q]? = some (.cells #[.string K1, .string O1, .string N1, .int .i64 ba, .int .i64 u, .string ⟨#[]⟩, .string ⟨#[]⟩, .string ⟨#[]⟩] 30 (0, 0))) := (setCell_in (setCell_in (unhide QJ) 3 _) 4 _).trans rfl
    have QC2 : Hid (((W4.setCell ⟨q, 3, none⟩ (.int .i64 ba)).setCell ⟨q, 4, none⟩ (.int .i64 u)).heap[W.heap.size]? = some (.cells (chgC c) 25 (0, 0))) := set_block (set_block (unhide QC) (by omega)) (by omega)
    have QR2 : Hid (((W4.setCell ⟨q, 3, none⟩ (.int .i64 ba)).setCell ⟨q, 4, none⟩ (.int .i64 u)).heap[W.heap.size + 1]? = some (.cells #[.string ⟨#[]⟩, .string ⟨#[]⟩, .string ⟨#[]⟩, .int .i64 0, .int .i64 0, .string ⟨#[]⟩, .string ⟨#[]⟩, .string ⟨#[]⟩] 30 (0, 0))) := set_block (set_block (unhide QR) (by omega)) (by omega)
    have HBW2 : Hid (Below W.heap.size W ((W4.setCell ⟨q, 3, none⟩ (.int .i64 ba)).setCell ⟨q, 4, none⟩ (.int .i64 u))) := bset (by omega) (bset (by omega) (unhide HBW))
    have hql2 : q < ((W4.setCell ⟨q, 3, none⟩ (.int .i64 ba)).setCell ⟨q, 4, none⟩ (.int .i64 u)).heap.size := (Array.getElem?_eq_some_iff.1 (unhide QJ2)).1
    clear hxC hfC hxJ hfJ QJ QC QR HBW H4 H5 hql
    generalize ((W4.setCell ⟨q, 3, none⟩ (.int .i64 ba)).setCell ⟨q, 4, none⟩ (.int .i64 u)) = X1 at *
    have p1 : ¬ 9223372036854775807 < 1 + 1 + N1.size := by omega
    have p2 : ¬ 9223372036854775807 < 2 + N1.size := by omega
    have hc2 : X1.cell? ⟨q, 2, none⟩ = some (.string N1) := cell_in (unhide QJ2) 2
    obtain ⟨hxJ, hfJ⟩ := block_facts (unhide QJ2)
    clear hxJ
    go_region_held3 (fun X => X.cell? ⟨q, 2, none⟩ = some (.string N1)) (first | assumption | (with_reducible exact hc2) | (with_reducible exact drew_cell hc2) | exact (cell_in (setCell_in hJ5 5 _) 2).trans rfl) ((go_at_call 40; with_reducible refine (unhide H6 _).mono ?_; rintro y w5 ⟨rfl, hb5⟩; have hJ5 : w5.heap[q]? = some (.cells #[.string K1, .string O1, .string N1, .int .i64 ba, .int .i64 u, .string ⟨#[]⟩, .string ⟨#[]⟩, .string ⟨#[]⟩] 30 (0, 0)) := kept_block hb5 (by repeat (first | with_reducible exact unhide QJ2 | with_reducible refine drew_block ?_)); have hc5 : w5.cell? ⟨q, 2, none⟩ = some (.string N1) := (cell_in hJ5 2).trans rfl; have hx5 := (block_facts hJ5).1; have hf5 := (block_facts hJ5).2))
    all_goals
      have QJ3 : Hid ((w5.setCell ⟨q, 5, none⟩ (.string (⟨#[1]⟩ ++ P1 ++ N1))).heap[q]? = some (.cells #[.string K1, .string O1, .string N1, .int .i64 ba, .int .i64 u, .string OP, .string ⟨#[]⟩, .string ⟨#[]⟩] 30 (0, 0))) := (setCell_in hJ5 5 _).trans (by rw [HOP.out]; rfl)
      have HBD : Below W.heap.size W X1.drew := bdrew (unhide HBW2)
      have QC3 : Hid ((w5.setCell ⟨q, 5, none⟩ (.string (⟨#[1]⟩ ++ P1 ++ N1))).heap[W.heap.size]? = some (.cells (chgC c) 25 (0, 0))) := set_block (kept_block hb5 (drew_block (unhide QC2))) n1
      have QR3 : Hid ((w5.setCell ⟨q, 5, none⟩ (.string (⟨#[1]⟩ ++ P1 ++ N1))).heap[W.heap.size + 1]? = some (.cells #[.string ⟨#[]⟩, .string ⟨#[]⟩, .string ⟨#[]⟩, .int .i64 0, .int .i64 0, .string ⟨#[]⟩, .string ⟨#[]⟩, .string ⟨#[]⟩] 30 (0, 0))) := set_block (kept_block hb5 (drew_block (unhide QR2))) n2
      have HBW3 : Hid (Below W.heap.size W (w5.setCell ⟨q, 5, none⟩ (.string (⟨#[1]⟩ ++ P1 ++ N1)))) := bset (by omega) (HBD.trans (hb5.mono HBD.size))
      clear hJ5 hc5 hx5 hf5 hb5 HBD QJ2 QC2 QR2 HBW2 hc2 hfJ hql2 H6
      try clear hHeld
      rw [HOP.out] at QJ3 QC3 QR3 HBW3 ⊢
      generalize (w5.setCell ⟨q, 5, none⟩ (.string OP)) = X2 at *
      clear HOP p1 p2
      obtain ⟨hxC, hfC⟩ := block_facts (unhide QC3)
      obtain ⟨hxJ, hfJ⟩ := block_facts (unhide QJ3)
      have hql3 := (Array.getElem?_eq_some_iff.1 (unhide QJ3)).1
      have hd := HD.out
      have he := HE.out
      clear HD HE
      go_wp2_with fail
      clear hql3
      with_reducible refine (unhide H12 _).mono ?_
      rintro e w11 ⟨rfl, hb11⟩
      have qj30 : (X2.setCell ⟨q, 6, none⟩ (.string ⟨#[0]⟩)).heap[q]? = some (.cells #[.string K1, .string O1, .string N1, .int .i64 ba, .int .i64 u, .string OP, .string ⟨#[0]⟩, .string ⟨#[]⟩] 30 (0, 0)) := (setCell_in (unhide QJ3) 6 _).trans rfl
      have HBX4 : Below W.heap.size W (X2.setCell ⟨q, 6, none⟩ (.string ⟨#[0]⟩)) := (bset (by omega) (unhide HBW3))
      have QJ4 : Hid (w11.heap[q]? = some (.cells #[.string K1, .string O1, .string N1, .int .i64 ba, .int .i64 u, .string OP, .string ⟨#[0]⟩, .string ⟨#[]⟩] 30 (0, 0))) := kept_block hb11 qj30
      have QC4 : Hid (w11.heap[W.heap.size]? = some (.cells (chgC c) 25 (0, 0))) := kept_block hb11 (set_block (unhide QC3) n1)
      have QR4 : Hid (w11.heap[W.heap.size + 1]? = some (.cells #[.string ⟨#[]⟩, .string ⟨#[]⟩, .string ⟨#[]⟩, .int .i64 0, .int .i64 0, .string ⟨#[]⟩, .string ⟨#[]⟩, .string ⟨#[]⟩] 30 (0, 0))) := kept_block hb11 (set_block (unhide QR3) n2)
      have HBW4 : Hid (Below W.heap.size W w11) := HBX4.trans (hb11.mono HBX4.size)
      clear hb11 QJ3 QC3 QR3 HBW3 HBX4 hxC hfC hxJ hfJ qj30 H12
      obtain ⟨hxC, hfC⟩ := block_facts (unhide QC4)
      obtain ⟨hxJ, hfJ⟩ := block_facts (unhide QJ4)
      obtain ⟨hxR, hfR⟩ := block_facts (unhide QR4)
      go_wp2
      refine bodyPost_ret (v := .tuple #[.agg #[.string K1, .string O1, .string N1, .int .i64 ba, .int .i64 u, .string OP, .string ⟨#[0]⟩, .string MN], .bool true]) (by simp [results, Tryz.results32, go_sem, hxR]) rfl ⟨rfl, ?_⟩
      have HB := HBW4
      repeat (first | with_reducible exact unhide HB | with_reducible exact Below.refl _ _ | with_reducible refine bdrew ?_ | (with_reducible refine brow ?_ ?_; (focus (first | omega | (simp; done) | (simp; omega)))) | (with_reducible refine bset ?_ ?_; (focus (first | omega | (simp; done) | (simp; omega)))) | (with_reducible refine balloc ?_ ?_; (focus (first | omega | (simp; done) | (simp; omega)))) | (with_reducible refine bvia (unhide HB1) ?_ ?_; (focus (first | omega | (simp; done) | (simp; omega)))) | (with_reducible refine bvia (unhide HB2) ?_ ?_; (focus (first | omega | (simp; done) | (simp; omega)))) | (with_reducible refine bvia (unhide HB3) ?_ ?_; (focus (first | omega | (simp; done) | (simp; omega)))) | (with_reducible refine bvia (unhide HB4) ?_ ?_; (focus (first | omega | (simp; done) | (simp; omega)))) | (with_reducible refine bvia (unhide HB5) ?_ ?_; (focus (first | omega | (simp; done) | (simp; omega)))) | (with_reducible refine bvia (unhide HB6) ?_ ?_; (focus (first | omega | (simp; done) | (simp; omega)))))
set_option maxRecDepth 10000 in
set_option maxHeartbeats 4000000 in
theorem worked_01 (c : Chg) (W : World) (K1 O1 N1 P1 OP Q Q1 A A1 EX MN : ByteArray) (ba u : Nat) (hba : ba ≤ 65534) (hN : N1.size ≤ 96) (hP1 : P1.size = 1) (hOP : ⟨#[1]⟩ ++ P1 ++ N1 = OP) (hEX : ⟨#[1]⟩ ++ Q1 ++ A1 ++ Q ++ A = EX)
    (hd : c.diffed = false) (he : c.shown = true) (hQ : Q.size ≤ 96) (hQ1 : Q1.size = 1) (hA : A.size ≤ 96) (hA1 : A1.size = 1)
    (h1 : ∀ X : World, Calls Tryz.prog 42 #[.string c.key, .int .i64 16] X fun e w' => e = .returned (.string K1) ∧ X = w')
    (h2 : ∀ X : World, Calls Tryz.prog 53 #[.agg #[.int .i64 c.i1, .int .i64 c.o1, .string c.t1, .string c.s1]] X fun e w' => e = .returned (.string O1) ∧ Below X.heap.size X w')
    (h3 : ∀ X : World, Calls Tryz.prog 53 #[.agg #[.int .i64 c.i2, .int .i64 c.o2, .string c.t2, .string c.s2]] X fun e w' => e = .returned (.string N1) ∧ Below X.heap.size X w')
    (h4 : ∀ X : World, Calls Tryz.prog 25 #[.int .i64 c.base, .int .i64 0, .int .i64 65534] X fun e w' => e = .returned (.int .i64 ba) ∧ X = w')
    (h5 : ∀ X : World, Calls Tryz.prog 25 #[.int .i64 c.up, .int .i64 ((ba : Int) + 1), .int .i64 65535] X fun e w' => e = .returned (.int .i64 u) ∧ X = w')
    (h6 : ∀ X : World, Calls Tryz.prog 40 #[.int .i64 N1.size] X fun e w' => e = .returned (.string P1) ∧ Below X.heap.size X w')
    (h8 : ∀ X : World, Calls Tryz.prog 35 #[.string N1, .string c.ask] X fun e w' => e = .returned (.string Q) ∧ X = w')
    (h9 : ∀ X : World, Calls Tryz.prog 36 #[.string N1, .string Q] X fun e w' => e = .returned (.tuple #[.string A, .bool true]) ∧ Below X.heap.size X w')
    (h10 : ∀ X : World, Calls Tryz.prog 40 #[.int .i64 Q.size] X fun e w' => e = .returned (.string Q1) ∧ Below X.heap.size X w')
    (h11 : ∀ X : World, Calls Tryz.prog 40 #[.int .i64 A.size] X fun e w' => e = .returned (.string A1) ∧ Below X.heap.size X w')
    (h12 : ∀ X : World, Calls Tryz.prog 20 #[.agg #[.string K1, .string O1, .string N1, .int .i64 ba, .int .i64 u, .string OP, .string EX, .string ⟨#[]⟩], .int .i64 ba, .int .i64 u] X fun e w' => e = .returned (.string MN) ∧ Below X.heap.size X w') :
    Calls Tryz.prog 32 #[chgV c] W fun e w' => e = .returned (.tuple #[.agg #[.string K1, .string O1, .string N1, .int .i64 ba, .int .i64 u, .string OP, .string EX, .string MN], .bool true]) ∧ Below W.heap.size W w' := by
  have H1 := hide h1
  have H2 := hide h2
  have H3 := hide h3
  have H4 := hide h4
  have H5 := hide h5
  have H6 := hide h6
  have H12 := hide h12
  have HOP := hide hOP
  have HD := hide hd
  have HE := hide he
  clear h1 h2 h3 h4 h5 h6 h12 hd he hOP
  have HEX := hide hEX
  clear hEX
  have H8 := hide h8
  have H9 := hide h9
  have H10 := hide h10
  have H11 := hide h11
  clear h8 h9 h10 h11
  have HBL : Hid (Below W.heap.size W ((W.alloc (.cells (chgC c) 25)).alloc (.cells #[.string ⟨#[]⟩, .string ⟨#[]⟩, .string ⟨#[]⟩, .int .i64 0, .int .i64 0, .string ⟨#[]⟩, .string ⟨#[]⟩, .string ⟨#[]⟩] 30)).drew) := (((Below.refl _ _).alloc (Nat.le_refl _) _).alloc (by simp) _).drew
  have hC := drew_block (first_block W (.cells (chgC c) 25) (.cells #[.string ⟨#[]⟩, .string ⟨#[]⟩, .string ⟨#[]⟩, .int .i64 0, .int .i64 0, .string ⟨#[]⟩, .string ⟨#[]⟩, .string ⟨#[]⟩] 30))
  have hR := drew_block (last_block (W.alloc (.cells (chgC c) 25)) (.cells #[.string ⟨#[]⟩, .string ⟨#[]⟩, .string ⟨#[]⟩, .int .i64 0, .int .i64 0, .string ⟨#[]⟩, .string ⟨#[]⟩, .string ⟨#[]⟩] 30) (n := W.heap.size + 1) (by simp))
  have hsz : W.heap.size + 2 ≤ (((W.alloc (.cells (chgC c) 25)).alloc (.cells #[.string ⟨#[]⟩, .string ⟨#[]⟩, .string ⟨#[]⟩, .int .i64 0, .int .i64 0, .string ⟨#[]⟩, .string ⟨#[]⟩, .string ⟨#[]⟩] 30)).drew).heap.size := by show _ ≤ ((W.alloc _).alloc _).heap.size; simp
  go_enter Tryz.func32, Tryz.ntmps32
  go_wp2_with fail
  refine cut_code (fun a X => ∃ (q : Nat) (x11 x12 x13 x14 x15 x16 x17 x18 x19 x20 : Value), a = ⟨#[chgV c, .pointer (some ⟨W.heap.size, 0, none⟩), .pointer (some ⟨W.heap.size + 1, 0, none⟩), .bool false, .pointer (some ⟨q, 0, none⟩), undef, undef, undef, undef, undef, undef, x11, x12, x13, x14, x15, x16, x17, x18, x19, x20, undef, undef, undef, undef, undef, undef, undef, undef, undef, undef, undef, undef, undef, undef, undef, undef, undef, undef, undef, undef, undef, undef, undef, undef, undef, undef, undef, undef, undef, undef, undef, undef, undef, undef, undef, undef, undef, undef, undef, undef, undef, undef, undef, undef, undef, undef, undef, undef, undef, undef, undef, undef, undef, undef, undef, undef, undef, undef, undef, undef, undef, undef, undef, undef, undef, undef, undef, undef, undef, undef, undef, undef, undef, undef, undef, undef, undef, undef, undef, undef, undef, undef, undef, undef, undef, undef], []⟩ ∧ X.heap[q]? = some (.cells #[.string K1, .string O1, .string N1, .int .i64 0, .int .i64 0, .string ⟨#[]⟩, .string ⟨#[]⟩, .string ⟨#[]⟩] 30 (0, 0)) ∧ X.heap[W.heap.size]? = some (.cells (chgC c) 25 (0, 0)) ∧ X.heap[W.heap.size + 1]? = some (.cells #[.string ⟨#[]⟩, .string ⟨#[]⟩, .string ⟨#[]⟩, .int .i64 0, .int .i64 0, .string ⟨#[]⟩, .string ⟨#[]⟩, .string ⟨#[]⟩] 30 (0, 0)) ∧ W.heap.size + 2 ≤ q ∧ Below W.heap.size W X) ?_ ?_
  · have rule2 : ∀ (X : World) (o : Nat), X.heap[W.heap.size]? = some (.cells (chgC c) 25 (0, 0)) → X.cell? ⟨W.heap.size, o, none⟩ = (chgC c)[o]? := fun X o h => cell_in h o
    go_region_held3 (fun X => X.heap[W.heap.size]? = some (.cells (chgC c) 25 (0, 0))) (repeat (first | with_reducible exact hC | with_reducible exact first_block _ _ _ | with_reducible refine ablk ?_ | with_reducible refine drew_block ?_ | (with_reducible refine sblk ?_ ?_; (focus omega)))) ((first
      | (go_at_call 42; with_reducible refine (unhide H1 _).mono ?_; rintro y wN ⟨rfl, rfl⟩)
      | (go_at_call 53; (first | with_reducible refine (unhide H2 _).mono ?_ | with_reducible refine (unhide H3 _).mono ?_); rintro y wN ⟨rfl, hbN⟩; (first | (have hK := kept_block hbN (last_block _ _ rfl)) | (have hK := kept_block hbN hK) | (have hK := kept_block hbN (drew_block (last_block _ _ rfl)))); (try simp only [World.size_alloc] at hK); have hNx := (block_facts hK).1; have hNf := (block_facts hK).2; have hNl := (Array.getElem?_eq_some_iff.1 hK).1; have hC : wN.heap[W.heap.size]? = some (.cells (chgC c) 25 (0, 0)) := kept_block hbN (by repeat (first | with_reducible exact hC | with_reducible exact first_block _ _ _ | with_reducible refine ablk ?_ | with_reducible refine drew_block ?_)); have hR : wN.heap[W.heap.size + 1]? = some (.cells #[.string ⟨#[]⟩, .string ⟨#[]⟩, .string ⟨#[]⟩, .int .i64 0, .int .i64 0, .string ⟨#[]⟩, .string ⟨#[]⟩, .string ⟨#[]⟩] 30 (0, 0)) := kept_block hbN (by repeat (first | with_reducible exact hR | (with_reducible refine last_block _ _ ?_; (focus (simp; done))) | with_reducible refine ablk ?_ | with_reducible refine drew_block ?_)); have HBL : Hid (Below W.heap.size W wN) := Below.trans (by repeat (first | with_reducible exact unhide HBL | with_reducible exact Below.refl _ _ | with_reducible refine bdrew ?_ | (with_reducible refine balloc ?_ ?_; (focus (first | omega | (simp; done) | (simp; omega)))))) (hbN.mono (by first | omega | (simp; done) | (simp; omega) | (show _ ≤ (World.alloc _ _).heap.size; simp; done) | (show _ ≤ (World.alloc _ _).heap.size; simp; omega))); have hsz : W.heap.size + 2 ≤ wN.heap.size := Nat.le_trans (by first | exact hsz | (simp; done) | (simp; omega) | (show _ ≤ (World.alloc _ _).heap.size; simp; done) | (show _ ≤ (World.alloc _ _).heap.size; simp; omega)) hbN.size)))
    all_goals
      have HBW := HBL
      refine ⟨rfl, _, _, _, _, _, _, _, _, _, _, _, rfl, ?_, ?_, ?_, ?_, ?_⟩
      · first | (with_reducible exact last_block _ _ rfl) | (with_reducible exact fill8 hK)
      · repeat (first | with_reducible exact hC | with_reducible refine ablk ?_ | with_reducible refine drew_block ?_ | (with_reducible refine sblk ?_ ?_; (focus (first | omega | (simp; done) | (simp; omega)))))
      · repeat (first | with_reducible exact hR | with_reducible refine ablk ?_ | with_reducible refine drew_block ?_ | (with_reducible refine sblk ?_ ?_; (focus (first | omega | (simp; done) | (simp; omega)))))
      · first | omega | (simp; done) | (simp; omega)
      · repeat (first | with_reducible exact unhide HBW | with_reducible refine bdrew ?_ | (with_reducible refine bset ?_ ?_; (focus (first | omega | (simp; done) | (simp; omega)))) | (with_reducible refine balloc ?_ ?_; (focus (first | omega | (simp; done) | (simp; omega)))))
  · rintro _ W4 ⟨q, x11, x12, x13, x14, x15, x16, x17, x18, x19, x20, rfl, qJ, qC, qR, hq, hbW⟩
    have hql := (Array.getElem?_eq_some_iff.1 qJ).1
    have n1 : ¬ W.heap.size = q := by omega
    have n2 : ¬ W.heap.size + 1 = q := by omega
    obtain ⟨hxC, hfC⟩ := block_facts qC
    obtain ⟨hxJ, hfJ⟩ := block_facts qJ
    have QJ := hide qJ
    have QC := hide qC
    have QR := hide qR
    have HBW := hide hbW
    clear qJ qC qR hbW HBL hC hR hsz H1 H2 H3
    go_wp2_with fail
    refine (unhide H4 _).mono ?_
    rintro e _ ⟨rfl, rfl⟩
    go_wp2_with fail
    refine (unhide H5 _).mono ?_
    rintro e _ ⟨rfl, rfl⟩
    go_wp2_with fail
    have QJ2 : Hid (((W4.setCell ⟨q, 3, none⟩ (.int .i64 ba)).setCell ⟨q, 4, none⟩ (.int .i64 u)).heap[q]? = some (.cells #[.string K1, .string O1, .string N1, .int .i64 ba, .int .i64 u, .string ⟨#[]⟩, .string ⟨#[]⟩, .string ⟨#[]⟩] 30 (0, 0))) := (setCell_in (setCell_in (unhide QJ) 3 _) 4 _).trans rfl
    have QC2 : Hid (((W4.setCell ⟨q, 3, none⟩ (.int .i64 ba)).setCell ⟨q, 4, none⟩ (.int .i64 u)).heap[W.heap.size]? = some (.cells (chgC c) 25 (0, 0))) := set_block (set_block (unhide QC) (by omega)) (by omega)
    have QR2 : Hid (((W4.setCell ⟨q, 3, none⟩ (.int .i64 ba)).setCell ⟨q, 4, none⟩ (.int .i64 u)).heap[W.heap.size + 1]? = some (.cells #[.string ⟨#[]⟩, .string ⟨#[]⟩, .string ⟨#[]⟩, .int .i64 0, .int .i64 0, .string ⟨#[]⟩, .string ⟨#[]⟩, .string ⟨#[]⟩] 30 (0, 0))) := set_block (set_block (unhide QR) (by omega)) (by omega)
    have HBW2 : Hid (Below W.heap.size W ((W4.setCell ⟨q, 3, none⟩ (.int .i64 ba)).setCell ⟨q, 4, none⟩ (.int .i64 u))) := bset (by omega) (bset (by omega) (unhide HBW))
    have hql2 : q < ((W4.setCell ⟨q, 3, none⟩ (.int .i64 ba)).setCell ⟨q, 4, none⟩ (.int .i64 u)).heap.size := (Array.getElem?_eq_some_iff.1 (unhide QJ2)).1
    clear hxC hfC hxJ hfJ QJ QC QR HBW H4 H5 hql
    generalize ((W4.setCell ⟨q, 3, none⟩ (.int .i64 ba)).setCell ⟨q, 4, none⟩ (.int .i64 u)) = X1 at *
    have p1 : ¬ 9223372036854775807 < 1 + 1 + N1.size := by omega
    have p2 : ¬ 9223372036854775807 < 2 + N1.size := by omega
    have hc2 : X1.cell? ⟨q, 2, none⟩ = some (.string N1) := cell_in (unhide QJ2) 2
    obtain ⟨hxJ, hfJ⟩ := block_facts (unhide QJ2)
    clear hxJ
    go_region_held3 (fun X => X.cell? ⟨q, 2, none⟩ = some (.string N1)) (first | assumption | (with_reducible exact hc2) | (with_reducible exact drew_cell hc2) | exact (cell_in (setCell_in hJ5 5 _) 2).trans rfl) ((go_at_call 40; with_reducible refine (unhide H6 _).mono ?_; rintro y w5 ⟨rfl, hb5⟩; have hJ5 : w5.heap[q]? = some (.cells #[.string K1, .string O1, .string N1, .int .i64 ba, .int .i64 u, .string ⟨#[]⟩, .string ⟨#[]⟩, .string ⟨#[]⟩] 30 (0, 0)) := kept_block hb5 (by repeat (first | with_reducible exact unhide QJ2 | with_reducible refine drew_block ?_)); have hc5 : w5.cell? ⟨q, 2, none⟩ = some (.string N1) := (cell_in hJ5 2).trans rfl; have hx5 := (block_facts hJ5).1; have hf5 := (block_facts hJ5).2))
    all_goals
      have QJ3 : Hid ((w5.setCell ⟨q, 5, none⟩ (.string (⟨#[1]⟩ ++ P1 ++ N1))).heap[q]? = some (.cells #[.string K1, .string O1, .string N1, .int .i64 ba, .int .i64 u, .string OP, .string ⟨#[]⟩, .string ⟨#[]⟩] 30 (0, 0))) := (setCell_in hJ5 5 _).trans (by rw [HOP.out]; rfl)
      have HBD : Below W.heap.size W X1.drew := bdrew (unhide HBW2)
      have QC3 : Hid ((w5.setCell ⟨q, 5, none⟩ (.string (⟨#[1]⟩ ++ P1 ++ N1))).heap[W.heap.size]? = some (.cells (chgC c) 25 (0, 0))) := set_block (kept_block hb5 (drew_block (unhide QC2))) n1
      have QR3 : Hid ((w5.setCell ⟨q, 5, none⟩ (.string (⟨#[1]⟩ ++ P1 ++ N1))).heap[W.heap.size + 1]? = some (.cells #[.string ⟨#[]⟩, .string ⟨#[]⟩, .string ⟨#[]⟩, .int .i64 0, .int .i64 0, .string ⟨#[]⟩, .string ⟨#[]⟩, .string ⟨#[]⟩] 30 (0, 0))) := set_block (kept_block hb5 (drew_block (unhide QR2))) n2
      have HBW3 : Hid (Below W.heap.size W (w5.setCell ⟨q, 5, none⟩ (.string (⟨#[1]⟩ ++ P1 ++ N1)))) := bset (by omega) (HBD.trans (hb5.mono HBD.size))
      clear hJ5 hc5 hx5 hf5 hb5 HBD QJ2 QC2 QR2 HBW2 hc2 hfJ hql2 H6
      try clear hHeld
      rw [HOP.out] at QJ3 QC3 QR3 HBW3 ⊢
      generalize (w5.setCell ⟨q, 5, none⟩ (.string OP)) = X2 at *
      clear HOP p1 p2
      obtain ⟨hxC, hfC⟩ := block_facts (unhide QC3)
      obtain ⟨hxJ, hfJ⟩ := block_facts (unhide QJ3)
      have hql3 := (Array.getElem?_eq_some_iff.1 (unhide QJ3)).1
      have hd := HD.out
      have he := HE.out
      clear HD HE
      go_wp2_with fail
      clear hql3
      with_reducible refine (unhide H8 _).mono ?_
      rintro e _ ⟨rfl, rfl⟩
      have k1 : ¬ 9223372036854775807 < 1 + 1 + 1 + Q.size := by omega
      have k2 : ¬ 9223372036854775807 < 1 + 1 + 1 + Q.size + A.size := by omega
      have k3 : ¬ 9223372036854775807 < 3 + Q.size := by omega
      have k4 : ¬ 9223372036854775807 < 3 + Q.size + A.size := by omega
      go_wp2_with fail
      with_reducible refine (unhide H9 _).mono ?_
      rintro e w8 ⟨rfl, hb8⟩
      have qj30 : (X2.setCell ⟨q, 6, none⟩ (.string ⟨#[0]⟩)).heap[q]? = some (.cells #[.string K1, .string O1, .string N1, .int .i64 ba, .int .i64 u, .string OP, .string ⟨#[0]⟩, .string ⟨#[]⟩] 30 (0, 0)) := (setCell_in (unhide QJ3) 6 _).trans rfl
      have HBX4 : Below W.heap.size W (X2.setCell ⟨q, 6, none⟩ (.string ⟨#[0]⟩)) := (bset (by omega) (unhide HBW3))
      have QJ4 : Hid (w8.heap[q]? = some (.cells #[.string K1, .string O1, .string N1, .int .i64 ba, .int .i64 u, .string OP, .string ⟨#[0]⟩, .string ⟨#[]⟩] 30 (0, 0))) := kept_block hb8 qj30
      have QC4 : Hid (w8.heap[W.heap.size]? = some (.cells (chgC c) 25 (0, 0))) := kept_block hb8 (set_block (unhide QC3) n1)
      have QR4 : Hid (w8.heap[W.heap.size + 1]? = some (.cells #[.string ⟨#[]⟩, .string ⟨#[]⟩, .string ⟨#[]⟩, .int .i64 0, .int .i64 0, .string ⟨#[]⟩, .string ⟨#[]⟩, .string ⟨#[]⟩] 30 (0, 0))) := kept_block hb8 (set_block (unhide QR3) n2)
      have HBW4 : Hid (Below W.heap.size W w8) := HBX4.trans (hb8.mono HBX4.size)
      clear hb8 QJ3 QC3 QR3 HBW3 HBX4 hxC hfC hxJ hfJ qj30 H9
      obtain ⟨hxC, hfC⟩ := block_facts (unhide QC4)
      obtain ⟨hxJ, hfJ⟩ := block_facts (unhide QJ4)
      go_wp2_with fail
      with_reducible refine (unhide H10 _).mono ?_
      rintro e w9 ⟨rfl, hb9⟩
      have HBX5 : Below W.heap.size W w8 := (unhide HBW4)
      have QJ5 : Hid (w9.heap[q]? = some (.cells #[.string K1, .string O1, .string N1, .int .i64 ba, .int .i64 u, .string OP, .string ⟨#[0]⟩, .string ⟨#[]⟩] 30 (0, 0))) := kept_block hb9 (unhide QJ4)
      have QC5 : Hid (w9.heap[W.heap.size]? = some (.cells (chgC c) 25 (0, 0))) := kept_block hb9 (unhide QC4)
      have QR5 : Hid (w9.heap[W.heap.size + 1]? = some (.cells #[.string ⟨#[]⟩, .string ⟨#[]⟩, .string ⟨#[]⟩, .int .i64 0, .int .i64 0, .string ⟨#[]⟩, .string ⟨#[]⟩, .string ⟨#[]⟩] 30 (0, 0))) := kept_block hb9 (unhide QR4)
      have HBW5 : Hid (Below W.heap.size W w9) := HBX5.trans (hb9.mono HBX5.size)
      clear hb9 QJ4 QC4 QR4 HBW4 HBX5 hxC hfC hxJ hfJ  H10
      obtain ⟨hxC, hfC⟩ := block_facts (unhide QC5)
      obtain ⟨hxJ, hfJ⟩ := block_facts (unhide QJ5)
      go_wp2_with fail
      with_reducible refine (unhide H11 _).mono ?_
      rintro e w10 ⟨rfl, hb10⟩
      have HBX6 : Below W.heap.size W w9 := (unhide HBW5)
      have QJ6 : Hid (w10.heap[q]? = some (.cells #[.string K1, .string O1, .string N1, .int .i64 ba, .int .i64 u, .string OP, .string ⟨#[0]⟩, .string ⟨#[]⟩] 30 (0, 0))) := kept_block hb10 (unhide QJ5)
      have QC6 : Hid (w10.heap[W.heap.size]? = some (.cells (chgC c) 25 (0, 0))) := kept_block hb10 (unhide QC5)
      have QR6 : Hid (w10.heap[W.heap.size + 1]? = some (.cells #[.string ⟨#[]⟩, .string ⟨#[]⟩, .string ⟨#[]⟩, .int .i64 0, .int .i64 0, .string ⟨#[]⟩, .string ⟨#[]⟩, .string ⟨#[]⟩] 30 (0, 0))) := kept_block hb10 (unhide QR5)
      have HBW6 : Hid (Below W.heap.size W w10) := HBX6.trans (hb10.mono HBX6.size)
      clear hb10 QJ5 QC5 QR5 HBW5 HBX6 hxC hfC hxJ hfJ  H11
      obtain ⟨hxC, hfC⟩ := block_facts (unhide QC6)
      obtain ⟨hxJ, hfJ⟩ := block_facts (unhide QJ6)
      go_wp2_with fail
      rw [HEX.out]
      with_reducible refine (unhide H12 _).mono ?_
      rintro e w11 ⟨rfl, hb11⟩
      have qj60 : (w10.setCell ⟨q, 6, none⟩ (.string EX)).heap[q]? = some (.cells #[.string K1, .string O1, .string N1, .int .i64 ba, .int .i64 u, .string OP, .string EX, .string ⟨#[]⟩] 30 (0, 0)) := (setCell_in (unhide QJ6) 6 _).trans rfl
      have HBX7 : Below W.heap.size W (w10.setCell ⟨q, 6, none⟩ (.string EX)) := (bset (by omega) (unhide HBW6))
      have QJ7 : Hid (w11.heap[q]? = some (.cells #[.string K1, .string O1, .string N1, .int .i64 ba, .int .i64 u, .string OP, .string EX, .string ⟨#[]⟩] 30 (0, 0))) := kept_block hb11 qj60
      have QC7 : Hid (w11.heap[W.heap.size]? = some (.cells (chgC c) 25 (0, 0))) := kept_block hb11 (set_block (unhide QC6) n1)
      have QR7 : Hid (w11.heap[W.heap.size + 1]? = some (.cells #[.string ⟨#[]⟩, .string ⟨#[]⟩, .string ⟨#[]⟩, .int .i64 0, .int .i64 0, .string ⟨#[]⟩, .string ⟨#[]⟩, .string ⟨#[]⟩] 30 (0, 0))) := kept_block hb11 (set_block (unhide QR6) n2)
      have HBW7 : Hid (Below W.heap.size W w11) := HBX7.trans (hb11.mono HBX7.size)
      clear hb11 QJ6 QC6 QR6 HBW6 HBX7 hxC hfC hxJ hfJ qj60 H12
      obtain ⟨hxC, hfC⟩ := block_facts (unhide QC7)
      obtain ⟨hxJ, hfJ⟩ := block_facts (unhide QJ7)
      obtain ⟨hxR, hfR⟩ := block_facts (unhide QR7)
      go_wp2
      refine bodyPost_ret (v := .tuple #[.agg #[.string K1, .string O1, .string N1, .int .i64 ba, .int .i64 u, .string OP, .string EX, .string MN], .bool true]) (by simp [results, Tryz.results32, go_sem, hxR]) rfl ⟨rfl, ?_⟩
      have HB := HBW7
      repeat (first | with_reducible exact unhide HB | with_reducible exact Below.refl _ _ | with_reducible refine bdrew ?_ | (with_reducible refine brow ?_ ?_; (focus (first | omega | (simp; done) | (simp; omega)))) | (with_reducible refine bset ?_ ?_; (focus (first | omega | (simp; done) | (simp; omega)))) | (with_reducible refine balloc ?_ ?_; (focus (first | omega | (simp; done) | (simp; omega)))) | (with_reducible refine bvia (unhide HB1) ?_ ?_; (focus (first | omega | (simp; done) | (simp; omega)))) | (with_reducible refine bvia (unhide HB2) ?_ ?_; (focus (first | omega | (simp; done) | (simp; omega)))) | (with_reducible refine bvia (unhide HB3) ?_ ?_; (focus (first | omega | (simp; done) | (simp; omega)))) | (with_reducible refine bvia (unhide HB4) ?_ ?_; (focus (first | omega | (simp; done) | (simp; omega)))) | (with_reducible refine bvia (unhide HB5) ?_ ?_; (focus (first | omega | (simp; done) | (simp; omega)))) | (with_reducible refine bvia (unhide HB6) ?_ ?_; (focus (first | omega | (simp; done) | (simp; omega)))))
set_option maxRecDepth 10000 in
set_option maxHeartbeats 4000000 in
theorem worked_10 (c : Chg) (W : World) (K1 O1 N1 P1 OP P MN : ByteArray) (ba u : Nat) (hba : ba ≤ 65534) (hN : N1.size ≤ 96) (hP1 : P1.size = 1) (hOP : ⟨#[1]⟩ ++ P1 ++ N1 = OP)
    (hd : c.diffed = true) (he : c.shown = false) (hp0 : 0 < P.size) (hp1 : P.size ≤ 96)
    (h1 : ∀ X : World, Calls Tryz.prog 42 #[.string c.key, .int .i64 16] X fun e w' => e = .returned (.string K1) ∧ X = w')
    (h2 : ∀ X : World, Calls Tryz.prog 53 #[.agg #[.int .i64 c.i1, .int .i64 c.o1, .string c.t1, .string c.s1]] X fun e w' => e = .returned (.string O1) ∧ Below X.heap.size X w')
    (h3 : ∀ X : World, Calls Tryz.prog 53 #[.agg #[.int .i64 c.i2, .int .i64 c.o2, .string c.t2, .string c.s2]] X fun e w' => e = .returned (.string N1) ∧ Below X.heap.size X w')
    (h4 : ∀ X : World, Calls Tryz.prog 25 #[.int .i64 c.base, .int .i64 0, .int .i64 65534] X fun e w' => e = .returned (.int .i64 ba) ∧ X = w')
    (h5 : ∀ X : World, Calls Tryz.prog 25 #[.int .i64 c.up, .int .i64 ((ba : Int) + 1), .int .i64 65535] X fun e w' => e = .returned (.int .i64 u) ∧ X = w')
    (h6 : ∀ X : World, Calls Tryz.prog 40 #[.int .i64 N1.size] X fun e w' => e = .returned (.string P1) ∧ Below X.heap.size X w')
    (h7 : ∀ X : World, Calls Tryz.prog 54 #[.string O1, .string N1] X fun e w' => e = .returned (.tuple #[.string P, .int .i64 0]) ∧ Below X.heap.size X w')
    (h12 : ∀ X : World, Calls Tryz.prog 20 #[.agg #[.string K1, .string O1, .string N1, .int .i64 ba, .int .i64 u, .string P, .string ⟨#[0]⟩, .string ⟨#[]⟩], .int .i64 ba, .int .i64 u] X fun e w' => e = .returned (.string MN) ∧ Below X.heap.size X w') :
    Calls Tryz.prog 32 #[chgV c] W fun e w' => e = .returned (.tuple #[.agg #[.string K1, .string O1, .string N1, .int .i64 ba, .int .i64 u, .string P, .string ⟨#[0]⟩, .string MN], .bool true]) ∧ Below W.heap.size W w' := by
  have H1 := hide h1
  have H2 := hide h2
  have H3 := hide h3
  have H4 := hide h4
  have H5 := hide h5
  have H6 := hide h6
  have H12 := hide h12
  have HOP := hide hOP
  have HD := hide hd
  have HE := hide he
  clear h1 h2 h3 h4 h5 h6 h12 hd he hOP
  have H7 := hide h7
  clear h7
  have HBL : Hid (Below W.heap.size W ((W.alloc (.cells (chgC c) 25)).alloc (.cells #[.string ⟨#[]⟩, .string ⟨#[]⟩, .string ⟨#[]⟩, .int .i64 0, .int .i64 0, .string ⟨#[]⟩, .string ⟨#[]⟩, .string ⟨#[]⟩] 30)).drew) := (((Below.refl _ _).alloc (Nat.le_refl _) _).alloc (by simp) _).drew
  have hC := drew_block (first_block W (.cells (chgC c) 25) (.cells #[.string ⟨#[]⟩, .string ⟨#[]⟩, .string ⟨#[]⟩, .int .i64 0, .int .i64 0, .string ⟨#[]⟩, .string ⟨#[]⟩, .string ⟨#[]⟩] 30))
  have hR := drew_block (last_block (W.alloc (.cells (chgC c) 25)) (.cells #[.string ⟨#[]⟩, .string ⟨#[]⟩, .string ⟨#[]⟩, .int .i64 0, .int .i64 0, .string ⟨#[]⟩, .string ⟨#[]⟩, .string ⟨#[]⟩] 30) (n := W.heap.size + 1) (by simp))
  have hsz : W.heap.size + 2 ≤ (((W.alloc (.cells (chgC c) 25)).alloc (.cells #[.string ⟨#[]⟩, .string ⟨#[]⟩, .string ⟨#[]⟩, .int .i64 0, .int .i64 0, .string ⟨#[]⟩, .string ⟨#[]⟩, .string ⟨#[]⟩] 30)).drew).heap.size := by show _ ≤ ((W.alloc _).alloc _).heap.size; simp
  go_enter Tryz.func32, Tryz.ntmps32
  go_wp2_with fail
  refine cut_code (fun a X => ∃ (q : Nat) (x11 x12 x13 x14 x15 x16 x17 x18 x19 x20 : Value), a = ⟨#[chgV c, .pointer (some ⟨W.heap.size, 0, none⟩), .pointer (some ⟨W.heap.size + 1, 0, none⟩), .bool false, .pointer (some ⟨q, 0, none⟩), undef, undef, undef, undef, undef, undef, x11, x12, x13, x14, x15, x16, x17, x18, x19, x20, undef, undef, undef, undef, undef, undef, undef, undef, undef, undef, undef, undef, undef, undef, undef, undef, undef, undef, undef, undef, undef, undef, undef, undef, undef, undef, undef, undef, undef, undef, undef, undef, undef, undef, undef, undef, undef, undef, undef, undef, undef, undef, undef, undef, undef, undef, undef, undef, undef, undef, undef, undef, undef, undef, undef, undef, undef, undef, undef, undef, undef, undef, undef, undef, undef, undef, undef, undef, undef, undef, undef, undef, undef, undef, undef, undef, undef, undef, undef, undef, undef, undef, undef, undef, undef, undef], []⟩ ∧ X.heap[q]? = some (.cells #[.string K1, .string O1, .string N1, .int .i64 0, .int .i64 0, .string ⟨#[]⟩, .string ⟨#[]⟩, .string ⟨#[]⟩] 30 (0, 0)) ∧ X.heap[W.heap.size]? = some (.cells (chgC c) 25 (0, 0)) ∧ X.heap[W.heap.size + 1]? = some (.cells #[.string ⟨#[]⟩, .string ⟨#[]⟩, .string ⟨#[]⟩, .int .i64 0, .int .i64 0, .string ⟨#[]⟩, .string ⟨#[]⟩, .string ⟨#[]⟩] 30 (0, 0)) ∧ W.heap.size + 2 ≤ q ∧ Below W.heap.size W X) ?_ ?_
  · have rule2 : ∀ (X : World) (o : Nat), X.heap[W.heap.size]? = some (.cells (chgC c) 25 (0, 0)) → X.cell? ⟨W.heap.size, o, none⟩ = (chgC c)[o]? := fun X o h => cell_in h o
    go_region_held3 (fun X => X.heap[W.heap.size]? = some (.cells (chgC c) 25 (0, 0))) (repeat (first | with_reducible exact hC | with_reducible exact first_block _ _ _ | with_reducible refine ablk ?_ | with_reducible refine drew_block ?_ | (with_reducible refine sblk ?_ ?_; (focus omega)))) ((first
      | (go_at_call 42; with_reducible refine (unhide H1 _).mono ?_; rintro y wN ⟨rfl, rfl⟩)
      | (go_at_call 53; (first | with_reducible refine (unhide H2 _).mono ?_ | with_reducible refine (unhide H3 _).mono ?_); rintro y wN ⟨rfl, hbN⟩; (first | (have hK := kept_block hbN (last_block _ _ rfl)) | (have hK := kept_block hbN hK) | (have hK := kept_block hbN (drew_block (last_block _ _ rfl)))); (try simp only [World.size_alloc] at hK); have hNx := (block_facts hK).1; have hNf := (block_facts hK).2; have hNl := (Array.getElem?_eq_some_iff.1 hK).1; have hC : wN.heap[W.heap.size]? = some (.cells (chgC c) 25 (0, 0)) := kept_block hbN (by repeat (first | with_reducible exact hC | with_reducible exact first_block _ _ _ | with_reducible refine ablk ?_ | with_reducible refine drew_block ?_)); have hR : wN.heap[W.heap.size + 1]? = some (.cells #[.string ⟨#[]⟩, .string ⟨#[]⟩, .string ⟨#[]⟩, .int .i64 0, .int .i64 0, .string ⟨#[]⟩, .string ⟨#[]⟩, .string ⟨#[]⟩] 30 (0, 0)) := kept_block hbN (by repeat (first | with_reducible exact hR | (with_reducible refine last_block _ _ ?_; (focus (simp; done))) | with_reducible refine ablk ?_ | with_reducible refine drew_block ?_)); have HBL : Hid (Below W.heap.size W wN) := Below.trans (by repeat (first | with_reducible exact unhide HBL | with_reducible exact Below.refl _ _ | with_reducible refine bdrew ?_ | (with_reducible refine balloc ?_ ?_; (focus (first | omega | (simp; done) | (simp; omega)))))) (hbN.mono (by first | omega | (simp; done) | (simp; omega) | (show _ ≤ (World.alloc _ _).heap.size; simp; done) | (show _ ≤ (World.alloc _ _).heap.size; simp; omega))); have hsz : W.heap.size + 2 ≤ wN.heap.size := Nat.le_trans (by first | exact hsz | (simp; done) | (simp; omega) | (show _ ≤ (World.alloc _ _).heap.size; simp; done) | (show _ ≤ (World.alloc _ _).heap.size; simp; omega)) hbN.size)))
    all_goals
      have HBW := HBL
      refine ⟨rfl, _, _, _, _, _, _, _, _, _, _, _, rfl, ?_, ?_, ?_, ?_, ?_⟩
      · first | (with_reducible exact last_block _ _ rfl) | (with_reducible exact fill8 hK)
      · repeat (first | with_reducible exact hC | with_reducible refine ablk ?_ | with_reducible refine drew_block ?_ | (with_reducible refine sblk ?_ ?_; (focus (first | omega | (simp; done) | (simp; omega)))))
      · repeat (first | with_reducible exact hR | with_reducible refine ablk ?_ | with_reducible refine drew_block ?_ | (with_reducible refine sblk ?_ ?_; (focus (first | omega | (simp; done) | (simp; omega)))))
      · first | omega | (simp; done) | (simp; omega)
      · repeat (first | with_reducible exact unhide HBW | with_reducible refine bdrew ?_ | (with_reducible refine bset ?_ ?_; (focus (first | omega | (simp; done) | (simp; omega)))) | (with_reducible refine balloc ?_ ?_; (focus (first | omega | (simp; done) | (simp; omega)))))
  · rintro _ W4 ⟨q, x11, x12, x13, x14, x15, x16, x17, x18, x19, x20, rfl, qJ, qC, qR, hq, hbW⟩
    have hql := (Array.getElem?_eq_some_iff.1 qJ).1
    have n1 : ¬ W.heap.size = q := by omega
    have n2 : ¬ W.heap.size + 1 = q := by omega
    obtain ⟨hxC, hfC⟩ := block_facts qC
    obtain ⟨hxJ, hfJ⟩ := block_facts qJ
    have QJ := hide qJ
    have QC := hide qC
    have QR := hide qR
    have HBW := hide hbW
    clear qJ qC qR hbW HBL hC hR hsz H1 H2 H3
    go_wp2_with fail
    refine (unhide H4 _).mono ?_
    rintro e _ ⟨rfl, rfl⟩
    go_wp2_with fail
    refine (unhide H5 _).mono ?_
    rintro e _ ⟨rfl, rfl⟩
    go_wp2_with fail
    have QJ2 : Hid (((W4.setCell ⟨q, 3, none⟩ (.int .i64 ba)).setCell ⟨q, 4, none⟩ (.int .i64 u)).heap[q]? = some (.cells #[.string K1, .string O1, .string N1, .int .i64 ba, .int .i64 u, .string ⟨#[]⟩, .string ⟨#[]⟩, .string ⟨#[]⟩] 30 (0, 0))) := (setCell_in (setCell_in (unhide QJ) 3 _) 4 _).trans rfl
    have QC2 : Hid (((W4.setCell ⟨q, 3, none⟩ (.int .i64 ba)).setCell ⟨q, 4, none⟩ (.int .i64 u)).heap[W.heap.size]? = some (.cells (chgC c) 25 (0, 0))) := set_block (set_block (unhide QC) (by omega)) (by omega)
    have QR2 : Hid (((W4.setCell ⟨q, 3, none⟩ (.int .i64 ba)).setCell ⟨q, 4, none⟩ (.int .i64 u)).heap[W.heap.size + 1]? = some (.cells #[.string ⟨#[]⟩, .string ⟨#[]⟩, .string ⟨#[]⟩, .int .i64 0, .int .i64 0, .string ⟨#[]⟩, .string ⟨#[]⟩, .string ⟨#[]⟩] 30 (0, 0))) := set_block (set_block (unhide QR) (by omega)) (by omega)
    have HBW2 : Hid (Below W.heap.size W ((W4.setCell ⟨q, 3, none⟩ (.int .i64 ba)).setCell ⟨q, 4, none⟩ (.int .i64 u))) := bset (by omega) (bset (by omega) (unhide HBW))
    have hql2 : q < ((W4.setCell ⟨q, 3, none⟩ (.int .i64 ba)).setCell ⟨q, 4, none⟩ (.int .i64 u)).heap.size := (Array.getElem?_eq_some_iff.1 (unhide QJ2)).1
    clear hxC hfC hxJ hfJ QJ QC QR HBW H4 H5 hql
    generalize ((W4.setCell ⟨q, 3, none⟩ (.int .i64 ba)).setCell ⟨q, 4, none⟩ (.int .i64 u)) = X1 at *
    have p1 : ¬ 9223372036854775807 < 1 + 1 + N1.size := by omega
    have p2 : ¬ 9223372036854775807 < 2 + N1.size := by omega
    have hc2 : X1.cell? ⟨q, 2, none⟩ = some (.string N1) := cell_in (unhide QJ2) 2
    obtain ⟨hxJ, hfJ⟩ := block_facts (unhide QJ2)
    clear hxJ
    go_region_held3 (fun X => X.cell? ⟨q, 2, none⟩ = some (.string N1)) (first | assumption | (with_reducible exact hc2) | (with_reducible exact drew_cell hc2) | exact (cell_in (setCell_in hJ5 5 _) 2).trans rfl) ((go_at_call 40; with_reducible refine (unhide H6 _).mono ?_; rintro y w5 ⟨rfl, hb5⟩; have hJ5 : w5.heap[q]? = some (.cells #[.string K1, .string O1, .string N1, .int .i64 ba, .int .i64 u, .string ⟨#[]⟩, .string ⟨#[]⟩, .string ⟨#[]⟩] 30 (0, 0)) := kept_block hb5 (by repeat (first | with_reducible exact unhide QJ2 | with_reducible refine drew_block ?_)); have hc5 : w5.cell? ⟨q, 2, none⟩ = some (.string N1) := (cell_in hJ5 2).trans rfl; have hx5 := (block_facts hJ5).1; have hf5 := (block_facts hJ5).2))
    all_goals
      have QJ3 : Hid ((w5.setCell ⟨q, 5, none⟩ (.string (⟨#[1]⟩ ++ P1 ++ N1))).heap[q]? = some (.cells #[.string K1, .string O1, .string N1, .int .i64 ba, .int .i64 u, .string OP, .string ⟨#[]⟩, .string ⟨#[]⟩] 30 (0, 0))) := (setCell_in hJ5 5 _).trans (by rw [HOP.out]; rfl)
      have HBD : Below W.heap.size W X1.drew := bdrew (unhide HBW2)
      have QC3 : Hid ((w5.setCell ⟨q, 5, none⟩ (.string (⟨#[1]⟩ ++ P1 ++ N1))).heap[W.heap.size]? = some (.cells (chgC c) 25 (0, 0))) := set_block (kept_block hb5 (drew_block (unhide QC2))) n1
      have QR3 : Hid ((w5.setCell ⟨q, 5, none⟩ (.string (⟨#[1]⟩ ++ P1 ++ N1))).heap[W.heap.size + 1]? = some (.cells #[.string ⟨#[]⟩, .string ⟨#[]⟩, .string ⟨#[]⟩, .int .i64 0, .int .i64 0, .string ⟨#[]⟩, .string ⟨#[]⟩, .string ⟨#[]⟩] 30 (0, 0))) := set_block (kept_block hb5 (drew_block (unhide QR2))) n2
      have HBW3 : Hid (Below W.heap.size W (w5.setCell ⟨q, 5, none⟩ (.string (⟨#[1]⟩ ++ P1 ++ N1)))) := bset (by omega) (HBD.trans (hb5.mono HBD.size))
      clear hJ5 hc5 hx5 hf5 hb5 HBD QJ2 QC2 QR2 HBW2 hc2 hfJ hql2 H6
      try clear hHeld
      rw [HOP.out] at QJ3 QC3 QR3 HBW3 ⊢
      generalize (w5.setCell ⟨q, 5, none⟩ (.string OP)) = X2 at *
      clear HOP p1 p2
      obtain ⟨hxC, hfC⟩ := block_facts (unhide QC3)
      obtain ⟨hxJ, hfJ⟩ := block_facts (unhide QJ3)
      have hql3 := (Array.getElem?_eq_some_iff.1 (unhide QJ3)).1
      have hd := HD.out
      have he := HE.out
      clear HD HE
      go_wp2_with fail
      clear hql3
      with_reducible refine (unhide H7 _).mono ?_
      rintro e w6 ⟨rfl, hb6⟩
      have HBX4 : Below W.heap.size W X2 := (unhide HBW3)
      have QJ4 : Hid (w6.heap[q]? = some (.cells #[.string K1, .string O1, .string N1, .int .i64 ba, .int .i64 u, .string OP, .string ⟨#[]⟩, .string ⟨#[]⟩] 30 (0, 0))) := kept_block hb6 (unhide QJ3)
      have QC4 : Hid (w6.heap[W.heap.size]? = some (.cells (chgC c) 25 (0, 0))) := kept_block hb6 (unhide QC3)
      have QR4 : Hid (w6.heap[W.heap.size + 1]? = some (.cells #[.string ⟨#[]⟩, .string ⟨#[]⟩, .string ⟨#[]⟩, .int .i64 0, .int .i64 0, .string ⟨#[]⟩, .string ⟨#[]⟩, .string ⟨#[]⟩] 30 (0, 0))) := kept_block hb6 (unhide QR3)
      have HBW4 : Hid (Below W.heap.size W w6) := HBX4.trans (hb6.mono HBX4.size)
      clear hb6 QJ3 QC3 QR3 HBW3 HBX4 hxC hfC hxJ hfJ  H7
      obtain ⟨hxC, hfC⟩ := block_facts (unhide QC4)
      obtain ⟨hxJ, hfJ⟩ := block_facts (unhide QJ4)
      go_wp2_with fail
      with_reducible refine (unhide H12 _).mono ?_
      rintro e w11 ⟨rfl, hb11⟩
      have qj40 : (w6.setCell ⟨q, 5, none⟩ (.string P)).heap[q]? = some (.cells #[.string K1, .string O1, .string N1, .int .i64 ba, .int .i64 u, .string P, .string ⟨#[]⟩, .string ⟨#[]⟩] 30 (0, 0)) := (setCell_in (unhide QJ4) 5 _).trans rfl
      have qj41 : ((w6.setCell ⟨q, 5, none⟩ (.string P)).setCell ⟨q, 6, none⟩ (.string ⟨#[0]⟩)).heap[q]? = some (.cells #[.string K1, .string O1, .string N1, .int .i64 ba, .int .i64 u, .string P, .string ⟨#[0]⟩, .string ⟨#[]⟩] 30 (0, 0)) := (setCell_in qj40 6 _).trans rfl
      have HBX5 : Below W.heap.size W ((w6.setCell ⟨q, 5, none⟩ (.string P)).setCell ⟨q, 6, none⟩ (.string ⟨#[0]⟩)) := (bset (by omega) (bset (by omega) (unhide HBW4)))
      have QJ5 : Hid (w11.heap[q]? = some (.cells #[.string K1, .string O1, .string N1, .int .i64 ba, .int .i64 u, .string P, .string ⟨#[0]⟩, .string ⟨#[]⟩] 30 (0, 0))) := kept_block hb11 qj41
      have QC5 : Hid (w11.heap[W.heap.size]? = some (.cells (chgC c) 25 (0, 0))) := kept_block hb11 (set_block (set_block (unhide QC4) n1) n1)
      have QR5 : Hid (w11.heap[W.heap.size + 1]? = some (.cells #[.string ⟨#[]⟩, .string ⟨#[]⟩, .string ⟨#[]⟩, .int .i64 0, .int .i64 0, .string ⟨#[]⟩, .string ⟨#[]⟩, .string ⟨#[]⟩] 30 (0, 0))) := kept_block hb11 (set_block (set_block (unhide QR4) n2) n2)
      have HBW5 : Hid (Below W.heap.size W w11) := HBX5.trans (hb11.mono HBX5.size)
      clear hb11 QJ4 QC4 QR4 HBW4 HBX5 hxC hfC hxJ hfJ qj40 qj41 H12
      obtain ⟨hxC, hfC⟩ := block_facts (unhide QC5)
      obtain ⟨hxJ, hfJ⟩ := block_facts (unhide QJ5)
      obtain ⟨hxR, hfR⟩ := block_facts (unhide QR5)
      go_wp2
      refine bodyPost_ret (v := .tuple #[.agg #[.string K1, .string O1, .string N1, .int .i64 ba, .int .i64 u, .string P, .string ⟨#[0]⟩, .string MN], .bool true]) (by simp [results, Tryz.results32, go_sem, hxR]) rfl ⟨rfl, ?_⟩
      have HB := HBW5
      repeat (first | with_reducible exact unhide HB | with_reducible exact Below.refl _ _ | with_reducible refine bdrew ?_ | (with_reducible refine brow ?_ ?_; (focus (first | omega | (simp; done) | (simp; omega)))) | (with_reducible refine bset ?_ ?_; (focus (first | omega | (simp; done) | (simp; omega)))) | (with_reducible refine balloc ?_ ?_; (focus (first | omega | (simp; done) | (simp; omega)))) | (with_reducible refine bvia (unhide HB1) ?_ ?_; (focus (first | omega | (simp; done) | (simp; omega)))) | (with_reducible refine bvia (unhide HB2) ?_ ?_; (focus (first | omega | (simp; done) | (simp; omega)))) | (with_reducible refine bvia (unhide HB3) ?_ ?_; (focus (first | omega | (simp; done) | (simp; omega)))) | (with_reducible refine bvia (unhide HB4) ?_ ?_; (focus (first | omega | (simp; done) | (simp; omega)))) | (with_reducible refine bvia (unhide HB5) ?_ ?_; (focus (first | omega | (simp; done) | (simp; omega)))) | (with_reducible refine bvia (unhide HB6) ?_ ?_; (focus (first | omega | (simp; done) | (simp; omega)))))
set_option maxRecDepth 10000 in
set_option maxHeartbeats 4000000 in
theorem worked_11 (c : Chg) (W : World) (K1 O1 N1 P1 OP P Q Q1 A A1 EX MN : ByteArray) (ba u : Nat) (hba : ba ≤ 65534) (hN : N1.size ≤ 96) (hP1 : P1.size = 1) (hOP : ⟨#[1]⟩ ++ P1 ++ N1 = OP) (hEX : ⟨#[1]⟩ ++ Q1 ++ A1 ++ Q ++ A = EX)
    (hd : c.diffed = true) (he : c.shown = true) (hp0 : 0 < P.size) (hp1 : P.size ≤ 96) (hQ : Q.size ≤ 96) (hQ1 : Q1.size = 1) (hA : A.size ≤ 96) (hA1 : A1.size = 1)
    (h1 : ∀ X : World, Calls Tryz.prog 42 #[.string c.key, .int .i64 16] X fun e w' => e = .returned (.string K1) ∧ X = w')
    (h2 : ∀ X : World, Calls Tryz.prog 53 #[.agg #[.int .i64 c.i1, .int .i64 c.o1, .string c.t1, .string c.s1]] X fun e w' => e = .returned (.string O1) ∧ Below X.heap.size X w')
    (h3 : ∀ X : World, Calls Tryz.prog 53 #[.agg #[.int .i64 c.i2, .int .i64 c.o2, .string c.t2, .string c.s2]] X fun e w' => e = .returned (.string N1) ∧ Below X.heap.size X w')
    (h4 : ∀ X : World, Calls Tryz.prog 25 #[.int .i64 c.base, .int .i64 0, .int .i64 65534] X fun e w' => e = .returned (.int .i64 ba) ∧ X = w')
    (h5 : ∀ X : World, Calls Tryz.prog 25 #[.int .i64 c.up, .int .i64 ((ba : Int) + 1), .int .i64 65535] X fun e w' => e = .returned (.int .i64 u) ∧ X = w')
    (h6 : ∀ X : World, Calls Tryz.prog 40 #[.int .i64 N1.size] X fun e w' => e = .returned (.string P1) ∧ Below X.heap.size X w')
    (h7 : ∀ X : World, Calls Tryz.prog 54 #[.string O1, .string N1] X fun e w' => e = .returned (.tuple #[.string P, .int .i64 0]) ∧ Below X.heap.size X w')
    (h8 : ∀ X : World, Calls Tryz.prog 35 #[.string N1, .string c.ask] X fun e w' => e = .returned (.string Q) ∧ X = w')
    (h9 : ∀ X : World, Calls Tryz.prog 36 #[.string N1, .string Q] X fun e w' => e = .returned (.tuple #[.string A, .bool true]) ∧ Below X.heap.size X w')
    (h10 : ∀ X : World, Calls Tryz.prog 40 #[.int .i64 Q.size] X fun e w' => e = .returned (.string Q1) ∧ Below X.heap.size X w')
    (h11 : ∀ X : World, Calls Tryz.prog 40 #[.int .i64 A.size] X fun e w' => e = .returned (.string A1) ∧ Below X.heap.size X w')
    (h12 : ∀ X : World, Calls Tryz.prog 20 #[.agg #[.string K1, .string O1, .string N1, .int .i64 ba, .int .i64 u, .string P, .string EX, .string ⟨#[]⟩], .int .i64 ba, .int .i64 u] X fun e w' => e = .returned (.string MN) ∧ Below X.heap.size X w') :
    Calls Tryz.prog 32 #[chgV c] W fun e w' => e = .returned (.tuple #[.agg #[.string K1, .string O1, .string N1, .int .i64 ba, .int .i64 u, .string P, .string EX, .string MN], .bool true]) ∧ Below W.heap.size W w' := by
  have H1 := hide h1
  have H2 := hide h2
  have H3 := hide h3
  have H4 := hide h4
  have H5 := hide h5
  have H6 := hide h6
  have H12 := hide h12
  have HOP := hide hOP
  have HD := hide hd
  have HE := hide he
  clear h1 h2 h3 h4 h5 h6 h12 hd he hOP
  have H7 := hide h7
  clear h7
  have HEX := hide hEX
  clear hEX
  have H8 := hide h8
  have H9 := hide h9
  have H10 := hide h10
  have H11 := hide h11
  clear h8 h9 h10 h11
  have HBL : Hid (Below W.heap.size W ((W.alloc (.cells (chgC c) 25)).alloc (.cells #[.string ⟨#[]⟩, .string ⟨#[]⟩, .string ⟨#[]⟩, .int .i64 0, .int .i64 0, .string ⟨#[]⟩, .string ⟨#[]⟩, .string ⟨#[]⟩] 30)).drew) := (((Below.refl _ _).alloc (Nat.le_refl _) _).alloc (by simp) _).drew
  have hC := drew_block (first_block W (.cells (chgC c) 25) (.cells #[.string ⟨#[]⟩, .string ⟨#[]⟩, .string ⟨#[]⟩, .int .i64 0, .int .i64 0, .string ⟨#[]⟩, .string ⟨#[]⟩, .string ⟨#[]⟩] 30))
  have hR := drew_block (last_block (W.alloc (.cells (chgC c) 25)) (.cells #[.string ⟨#[]⟩, .string ⟨#[]⟩, .string ⟨#[]⟩, .int .i64 0, .int .i64 0, .string ⟨#[]⟩, .string ⟨#[]⟩, .string ⟨#[]⟩] 30) (n := W.heap.size + 1) (by simp))
  have hsz : W.heap.size + 2 ≤ (((W.alloc (.cells (chgC c) 25)).alloc (.cells #[.string ⟨#[]⟩, .string ⟨#[]⟩, .string ⟨#[]⟩, .int .i64 0, .int .i64 0, .string ⟨#[]⟩, .string ⟨#[]⟩, .string ⟨#[]⟩] 30)).drew).heap.size := by show _ ≤ ((W.alloc _).alloc _).heap.size; simp
  go_enter Tryz.func32, Tryz.ntmps32
  go_wp2_with fail
  refine cut_code (fun a X => ∃ (q : Nat) (x11 x12 x13 x14 x15 x16 x17 x18 x19 x20 : Value), a = ⟨#[chgV c, .pointer (some ⟨W.heap.size, 0, none⟩), .pointer (some ⟨W.heap.size + 1, 0, none⟩), .bool false, .pointer (some ⟨q, 0, none⟩), undef, undef, undef, undef, undef, undef, x11, x12, x13, x14, x15, x16, x17, x18, x19, x20, undef, undef, undef, undef, undef, undef, undef, undef, undef, undef, undef, undef, undef, undef, undef, undef, undef, undef, undef, undef, undef, undef, undef, undef, undef, undef, undef, undef, undef, undef, undef, undef, undef, undef, undef, undef, undef, undef, undef, undef, undef, undef, undef, undef, undef, undef, undef, undef, undef, undef, undef, undef, undef, undef, undef, undef, undef, undef, undef, undef, undef, undef, undef, undef, undef, undef, undef, undef, undef, undef, undef, undef, undef, undef, undef, undef, undef, undef, undef, undef, undef, undef, undef, undef, undef, undef], []⟩ ∧ X.heap[q]? = some (.cells #[.string K1, .string O1, .string N1, .int .i64 0, .int .i64 0, .string ⟨#[]⟩, .string ⟨#[]⟩, .string ⟨#[]⟩] 30 (0, 0)) ∧ X.heap[W.heap.size]? = some (.cells (chgC c) 25 (0, 0)) ∧ X.heap[W.heap.size + 1]? = some (.cells #[.string ⟨#[]⟩, .string ⟨#[]⟩, .string ⟨#[]⟩, .int .i64 0, .int .i64 0, .string ⟨#[]⟩, .string ⟨#[]⟩, .string ⟨#[]⟩] 30 (0, 0)) ∧ W.heap.size + 2 ≤ q ∧ Below W.heap.size W X) ?_ ?_
  · have rule2 : ∀ (X : World) (o : Nat), X.heap[W.heap.size]? = some (.cells (chgC c) 25 (0, 0)) → X.cell? ⟨W.heap.size, o, none⟩ = (chgC c)[o]? := fun X o h => cell_in h o
    go_region_held3 (fun X => X.heap[W.heap.size]? = some (.cells (chgC c) 25 (0, 0))) (repeat (first | with_reducible exact hC | with_reducible exact first_block _ _ _ | with_reducible refine ablk ?_ | with_reducible refine drew_block ?_ | (with_reducible refine sblk ?_ ?_; (focus omega)))) ((first
      | (go_at_call 42; with_reducible refine (unhide H1 _).mono ?_; rintro y wN ⟨rfl, rfl⟩)
      | (go_at_call 53; (first | with_reducible refine (unhide H2 _).mono ?_ | with_reducible refine (unhide H3 _).mono ?_); rintro y wN ⟨rfl, hbN⟩; (first | (have hK := kept_block hbN (last_block _ _ rfl)) | (have hK := kept_block hbN hK) | (have hK := kept_block hbN (drew_block (last_block _ _ rfl)))); (try simp only [World.size_alloc] at hK); have hNx := (block_facts hK).1; have hNf := (block_facts hK).2; have hNl := (Array.getElem?_eq_some_iff.1 hK).1; have hC : wN.heap[W.heap.size]? = some (.cells (chgC c) 25 (0, 0)) := kept_block hbN (by repeat (first | with_reducible exact hC | with_reducible exact first_block _ _ _ | with_reducible refine ablk ?_ | with_reducible refine drew_block ?_)); have hR : wN.heap[W.heap.size + 1]? = some (.cells #[.string ⟨#[]⟩, .string ⟨#[]⟩, .string ⟨#[]⟩, .int .i64 0, .int .i64 0, .string ⟨#[]⟩, .string ⟨#[]⟩, .string ⟨#[]⟩] 30 (0, 0)) := kept_block hbN (by repeat (first | with_reducible exact hR | (with_reducible refine last_block _ _ ?_; (focus (simp; done))) | with_reducible refine ablk ?_ | with_reducible refine drew_block ?_)); have HBL : Hid (Below W.heap.size W wN) := Below.trans (by repeat (first | with_reducible exact unhide HBL | with_reducible exact Below.refl _ _ | with_reducible refine bdrew ?_ | (with_reducible refine balloc ?_ ?_; (focus (first | omega | (simp; done) | (simp; omega)))))) (hbN.mono (by first | omega | (simp; done) | (simp; omega) | (show _ ≤ (World.alloc _ _).heap.size; simp; done) | (show _ ≤ (World.alloc _ _).heap.size; simp; omega))); have hsz : W.heap.size + 2 ≤ wN.heap.size := Nat.le_trans (by first | exact hsz | (simp; done) | (simp; omega) | (show _ ≤ (World.alloc _ _).heap.size; simp; done) | (show _ ≤ (World.alloc _ _).heap.size; simp; omega)) hbN.size)))
    all_goals
      have HBW := HBL
      refine ⟨rfl, _, _, _, _, _, _, _, _, _, _, _, rfl, ?_, ?_, ?_, ?_, ?_⟩
      · first | (with_reducible exact last_block _ _ rfl) | (with_reducible exact fill8 hK)
      · repeat (first | with_reducible exact hC | with_reducible refine ablk ?_ | with_reducible refine drew_block ?_ | (with_reducible refine sblk ?_ ?_; (focus (first | omega | (simp; done) | (simp; omega)))))
      · repeat (first | with_reducible exact hR | with_reducible refine ablk ?_ | with_reducible refine drew_block ?_ | (with_reducible refine sblk ?_ ?_; (focus (first | omega | (simp; done) | (simp; omega)))))
      · first | omega | (simp; done) | (simp; omega)
      · repeat (first | with_reducible exact unhide HBW | with_reducible refine bdrew ?_ | (with_reducible refine bset ?_ ?_; (focus (first | omega | (simp; done) | (simp; omega)))) | (with_reducible refine balloc ?_ ?_; (focus (first | omega | (simp; done) | (simp; omega)))))
  · rintro _ W4 ⟨q, x11, x12, x13, x14, x15, x16, x17, x18, x19, x20, rfl, qJ, qC, qR, hq, hbW⟩
    have hql := (Array.getElem?_eq_some_iff.1 qJ).1
    have n1 : ¬ W.heap.size = q := by omega
    have n2 : ¬ W.heap.size + 1 = q := by omega
    obtain ⟨hxC, hfC⟩ := block_facts qC
    obtain ⟨hxJ, hfJ⟩ := block_facts qJ
    have QJ := hide qJ
    have QC := hide qC
    have QR := hide qR
    have HBW := hide hbW
    clear qJ qC qR hbW HBL hC hR hsz H1 H2 H3
    go_wp2_with fail
    refine (unhide H4 _).mono ?_
    rintro e _ ⟨rfl, rfl⟩
    go_wp2_with fail
    refine (unhide H5 _).mono ?_
    rintro e _ ⟨rfl, rfl⟩
    go_wp2_with fail
    have QJ2 : Hid (((W4.setCell ⟨q, 3, none⟩ (.int .i64 ba)).setCell ⟨q, 4, none⟩ (.int .i64 u)).heap[q]? = some (.cells #[.string K1, .string O1, .string N1, .int .i64 ba, .int .i64 u, .string ⟨#[]⟩, .string ⟨#[]⟩, .string ⟨#[]⟩] 30 (0, 0))) := (setCell_in (setCell_in (unhide QJ) 3 _) 4 _).trans rfl
    have QC2 : Hid (((W4.setCell ⟨q, 3, none⟩ (.int .i64 ba)).setCell ⟨q, 4, none⟩ (.int .i64 u)).heap[W.heap.size]? = some (.cells (chgC c) 25 (0, 0))) := set_block (set_block (unhide QC) (by omega)) (by omega)
    have QR2 : Hid (((W4.setCell ⟨q, 3, none⟩ (.int .i64 ba)).setCell ⟨q, 4, none⟩ (.int .i64 u)).heap[W.heap.size + 1]? = some (.cells #[.string ⟨#[]⟩, .string ⟨#[]⟩, .string ⟨#[]⟩, .int .i64 0, .int .i64 0, .string ⟨#[]⟩, .string ⟨#[]⟩, .string ⟨#[]⟩] 30 (0, 0))) := set_block (set_block (unhide QR) (by omega)) (by omega)
    have HBW2 : Hid (Below W.heap.size W ((W4.setCell ⟨q, 3, none⟩ (.int .i64 ba)).setCell ⟨q, 4, none⟩ (.int .i64 u))) := bset (by omega) (bset (by omega) (unhide HBW))
    have hql2 : q < ((W4.setCell ⟨q, 3, none⟩ (.int .i64 ba)).setCell ⟨q, 4, none⟩ (.int .i64 u)).heap.size := (Array.getElem?_eq_some_iff.1 (unhide QJ2)).1
    clear hxC hfC hxJ hfJ QJ QC QR HBW H4 H5 hql
    generalize ((W4.setCell ⟨q, 3, none⟩ (.int .i64 ba)).setCell ⟨q, 4, none⟩ (.int .i64 u)) = X1 at *
    have p1 : ¬ 9223372036854775807 < 1 + 1 + N1.size := by omega
    have p2 : ¬ 9223372036854775807 < 2 + N1.size := by omega
    have hc2 : X1.cell? ⟨q, 2, none⟩ = some (.string N1) := cell_in (unhide QJ2) 2
    obtain ⟨hxJ, hfJ⟩ := block_facts (unhide QJ2)
    clear hxJ
    go_region_held3 (fun X => X.cell? ⟨q, 2, none⟩ = some (.string N1)) (first | assumption | (with_reducible exact hc2) | (with_reducible exact drew_cell hc2) | exact (cell_in (setCell_in hJ5 5 _) 2).trans rfl) ((go_at_call 40; with_reducible refine (unhide H6 _).mono ?_; rintro y w5 ⟨rfl, hb5⟩; have hJ5 : w5.heap[q]? = some (.cells #[.string K1, .string O1, .string N1, .int .i64 ba, .int .i64 u, .string ⟨#[]⟩, .string ⟨#[]⟩, .string ⟨#[]⟩] 30 (0, 0)) := kept_block hb5 (by repeat (first | with_reducible exact unhide QJ2 | with_reducible refine drew_block ?_)); have hc5 : w5.cell? ⟨q, 2, none⟩ = some (.string N1) := (cell_in hJ5 2).trans rfl; have hx5 := (block_facts hJ5).1; have hf5 := (block_facts hJ5).2))
    all_goals
      have QJ3 : Hid ((w5.setCell ⟨q, 5, none⟩ (.string (⟨#[1]⟩ ++ P1 ++ N1))).heap[q]? = some (.cells #[.string K1, .string O1, .string N1, .int .i64 ba, .int .i64 u, .string OP, .string ⟨#[]⟩, .string ⟨#[]⟩] 30 (0, 0))) := (setCell_in hJ5 5 _).trans (by rw [HOP.out]; rfl)
      have HBD : Below W.heap.size W X1.drew := bdrew (unhide HBW2)
      have QC3 : Hid ((w5.setCell ⟨q, 5, none⟩ (.string (⟨#[1]⟩ ++ P1 ++ N1))).heap[W.heap.size]? = some (.cells (chgC c) 25 (0, 0))) := set_block (kept_block hb5 (drew_block (unhide QC2))) n1
      have QR3 : Hid ((w5.setCell ⟨q, 5, none⟩ (.string (⟨#[1]⟩ ++ P1 ++ N1))).heap[W.heap.size + 1]? = some (.cells #[.string ⟨#[]⟩, .string ⟨#[]⟩, .string ⟨#[]⟩, .int .i64 0, .int .i64 0, .string ⟨#[]⟩, .string ⟨#[]⟩, .string ⟨#[]⟩] 30 (0, 0))) := set_block (kept_block hb5 (drew_block (unhide QR2))) n2
      have HBW3 : Hid (Below W.heap.size W (w5.setCell ⟨q, 5, none⟩ (.string (⟨#[1]⟩ ++ P1 ++ N1)))) := bset (by omega) (HBD.trans (hb5.mono HBD.size))
      clear hJ5 hc5 hx5 hf5 hb5 HBD QJ2 QC2 QR2 HBW2 hc2 hfJ hql2 H6
      try clear hHeld
      rw [HOP.out] at QJ3 QC3 QR3 HBW3 ⊢
      generalize (w5.setCell ⟨q, 5, none⟩ (.string OP)) = X2 at *
      clear HOP p1 p2
      obtain ⟨hxC, hfC⟩ := block_facts (unhide QC3)
      obtain ⟨hxJ, hfJ⟩ := block_facts (unhide QJ3)
      have hql3 := (Array.getElem?_eq_some_iff.1 (unhide QJ3)).1
      have hd := HD.out
      have he := HE.out
      clear HD HE
      go_wp2_with fail
      clear hql3
      with_reducible refine (unhide H7 _).mono ?_
      rintro e w6 ⟨rfl, hb6⟩
      have HBX4 : Below W.heap.size W X2 := (unhide HBW3)
      have QJ4 : Hid (w6.heap[q]? = some (.cells #[.string K1, .string O1, .string N1, .int .i64 ba, .int .i64 u, .string OP, .string ⟨#[]⟩, .string ⟨#[]⟩] 30 (0, 0))) := kept_block hb6 (unhide QJ3)
      have QC4 : Hid (w6.heap[W.heap.size]? = some (.cells (chgC c) 25 (0, 0))) := kept_block hb6 (unhide QC3)
      have QR4 : Hid (w6.heap[W.heap.size + 1]? = some (.cells #[.string ⟨#[]⟩, .string ⟨#[]⟩, .string ⟨#[]⟩, .int .i64 0, .int .i64 0, .string ⟨#[]⟩, .string ⟨#[]⟩, .string ⟨#[]⟩] 30 (0, 0))) := kept_block hb6 (unhide QR3)
      have HBW4 : Hid (Below W.heap.size W w6) := HBX4.trans (hb6.mono HBX4.size)
      clear hb6 QJ3 QC3 QR3 HBW3 HBX4 hxC hfC hxJ hfJ  H7
      obtain ⟨hxC, hfC⟩ := block_facts (unhide QC4)
      obtain ⟨hxJ, hfJ⟩ := block_facts (unhide QJ4)
      go_wp2_with fail
      with_reducible refine (unhide H8 _).mono ?_
      rintro e _ ⟨rfl, rfl⟩
      have k1 : ¬ 9223372036854775807 < 1 + 1 + 1 + Q.size := by omega
      have k2 : ¬ 9223372036854775807 < 1 + 1 + 1 + Q.size + A.size := by omega
      have k3 : ¬ 9223372036854775807 < 3 + Q.size := by omega
      have k4 : ¬ 9223372036854775807 < 3 + Q.size + A.size := by omega
      go_wp2_with fail
      with_reducible refine (unhide H9 _).mono ?_
      rintro e w8 ⟨rfl, hb8⟩
      have qj40 : (w6.setCell ⟨q, 5, none⟩ (.string P)).heap[q]? = some (.cells #[.string K1, .string O1, .string N1, .int .i64 ba, .int .i64 u, .string P, .string ⟨#[]⟩, .string ⟨#[]⟩] 30 (0, 0)) := (setCell_in (unhide QJ4) 5 _).trans rfl
      have qj41 : ((w6.setCell ⟨q, 5, none⟩ (.string P)).setCell ⟨q, 6, none⟩ (.string ⟨#[0]⟩)).heap[q]? = some (.cells #[.string K1, .string O1, .string N1, .int .i64 ba, .int .i64 u, .string P, .string ⟨#[0]⟩, .string ⟨#[]⟩] 30 (0, 0)) := (setCell_in qj40 6 _).trans rfl
      have HBX5 : Below W.heap.size W ((w6.setCell ⟨q, 5, none⟩ (.string P)).setCell ⟨q, 6, none⟩ (.string ⟨#[0]⟩)) := (bset (by omega) (bset (by omega) (unhide HBW4)))
      have QJ5 : Hid (w8.heap[q]? = some (.cells #[.string K1, .string O1, .string N1, .int .i64 ba, .int .i64 u, .string P, .string ⟨#[0]⟩, .string ⟨#[]⟩] 30 (0, 0))) := kept_block hb8 qj41
      have QC5 : Hid (w8.heap[W.heap.size]? = some (.cells (chgC c) 25 (0, 0))) := kept_block hb8 (set_block (set_block (unhide QC4) n1) n1)
      have QR5 : Hid (w8.heap[W.heap.size + 1]? = some (.cells #[.string ⟨#[]⟩, .string ⟨#[]⟩, .string ⟨#[]⟩, .int .i64 0, .int .i64 0, .string ⟨#[]⟩, .string ⟨#[]⟩, .string ⟨#[]⟩] 30 (0, 0))) := kept_block hb8 (set_block (set_block (unhide QR4) n2) n2)
      have HBW5 : Hid (Below W.heap.size W w8) := HBX5.trans (hb8.mono HBX5.size)
      clear hb8 QJ4 QC4 QR4 HBW4 HBX5 hxC hfC hxJ hfJ qj40 qj41 H9
      obtain ⟨hxC, hfC⟩ := block_facts (unhide QC5)
      obtain ⟨hxJ, hfJ⟩ := block_facts (unhide QJ5)
      go_wp2_with fail
      with_reducible refine (unhide H10 _).mono ?_
      rintro e w9 ⟨rfl, hb9⟩
      have HBX6 : Below W.heap.size W w8 := (unhide HBW5)
      have QJ6 : Hid (w9.heap[q]? = some (.cells #[.string K1, .string O1, .string N1, .int .i64 ba, .int .i64 u, .string P, .string ⟨#[0]⟩, .string ⟨#[]⟩] 30 (0, 0))) := kept_block hb9 (unhide QJ5)
      have QC6 : Hid (w9.heap[W.heap.size]? = some (.cells (chgC c) 25 (0, 0))) := kept_block hb9 (unhide QC5)
      have QR6 : Hid (w9.heap[W.heap.size + 1]? = some (.cells #[.string ⟨#[]⟩, .string ⟨#[]⟩, .string ⟨#[]⟩, .int .i64 0, .int .i64 0, .string ⟨#[]⟩, .string ⟨#[]⟩, .string ⟨#[]⟩] 30 (0, 0))) := kept_block hb9 (unhide QR5)
      have HBW6 : Hid (Below W.heap.size W w9) := HBX6.trans (hb9.mono HBX6.size)
      clear hb9 QJ5 QC5 QR5 HBW5 HBX6 hxC hfC hxJ hfJ  H10
      obtain ⟨hxC, hfC⟩ := block_facts (unhide QC6)
      obtain ⟨hxJ, hfJ⟩ := block_facts (unhide QJ6)
      go_wp2_with fail
      with_reducible refine (unhide H11 _).mono ?_
      rintro e w10 ⟨rfl, hb10⟩
      have HBX7 : Below W.heap.size W w9 := (unhide HBW6)
      have QJ7 : Hid (w10.heap[q]? = some (.cells #[.string K1, .string O1, .string N1, .int .i64 ba, .int .i64 u, .string P, .string ⟨#[0]⟩, .string ⟨#[]⟩] 30 (0, 0))) := kept_block hb10 (unhide QJ6)
      have QC7 : Hid (w10.heap[W.heap.size]? = some (.cells (chgC c) 25 (0, 0))) := kept_block hb10 (unhide QC6)
      have QR7 : Hid (w10.heap[W.heap.size + 1]? = some (.cells #[.string ⟨#[]⟩, .string ⟨#[]⟩, .string ⟨#[]⟩, .int .i64 0, .int .i64 0, .string ⟨#[]⟩, .string ⟨#[]⟩, .string ⟨#[]⟩] 30 (0, 0))) := kept_block hb10 (unhide QR6)
      have HBW7 : Hid (Below W.heap.size W w10) := HBX7.trans (hb10.mono HBX7.size)
      clear hb10 QJ6 QC6 QR6 HBW6 HBX7 hxC hfC hxJ hfJ  H11
      obtain ⟨hxC, hfC⟩ := block_facts (unhide QC7)
      obtain ⟨hxJ, hfJ⟩ := block_facts (unhide QJ7)
      go_wp2_with fail
      rw [HEX.out]
      with_reducible refine (unhide H12 _).mono ?_
      rintro e w11 ⟨rfl, hb11⟩
      have qj70 : (w10.setCell ⟨q, 6, none⟩ (.string EX)).heap[q]? = some (.cells #[.string K1, .string O1, .string N1, .int .i64 ba, .int .i64 u, .string P, .string EX, .string ⟨#[]⟩] 30 (0, 0)) := (setCell_in (unhide QJ7) 6 _).trans rfl
      have HBX8 : Below W.heap.size W (w10.setCell ⟨q, 6, none⟩ (.string EX)) := (bset (by omega) (unhide HBW7))
      have QJ8 : Hid (w11.heap[q]? = some (.cells #[.string K1, .string O1, .string N1, .int .i64 ba, .int .i64 u, .string P, .string EX, .string ⟨#[]⟩] 30 (0, 0))) := kept_block hb11 qj70
      have QC8 : Hid (w11.heap[W.heap.size]? = some (.cells (chgC c) 25 (0, 0))) := kept_block hb11 (set_block (unhide QC7) n1)
      have QR8 : Hid (w11.heap[W.heap.size + 1]? = some (.cells #[.string ⟨#[]⟩, .string ⟨#[]⟩, .string ⟨#[]⟩, .int .i64 0, .int .i64 0, .string ⟨#[]⟩, .string ⟨#[]⟩, .string ⟨#[]⟩] 30 (0, 0))) := kept_block hb11 (set_block (unhide QR7) n2)
      have HBW8 : Hid (Below W.heap.size W w11) := HBX8.trans (hb11.mono HBX8.size)
      clear hb11 QJ7 QC7 QR7 HBW7 HBX8 hxC hfC hxJ hfJ qj70 H12
      obtain ⟨hxC, hfC⟩ := block_facts (unhide QC8)
      obtain ⟨hxJ, hfJ⟩ := block_facts (unhide QJ8)
      obtain ⟨hxR, hfR⟩ := block_facts (unhide QR8)
      go_wp2
      refine bodyPost_ret (v := .tuple #[.agg #[.string K1, .string O1, .string N1, .int .i64 ba, .int .i64 u, .string P, .string EX, .string MN], .bool true]) (by simp [results, Tryz.results32, go_sem, hxR]) rfl ⟨rfl, ?_⟩
      have HB := HBW8
      repeat (first | with_reducible exact unhide HB | with_reducible exact Below.refl _ _ | with_reducible refine bdrew ?_ | (with_reducible refine brow ?_ ?_; (focus (first | omega | (simp; done) | (simp; omega)))) | (with_reducible refine bset ?_ ?_; (focus (first | omega | (simp; done) | (simp; omega)))) | (with_reducible refine balloc ?_ ?_; (focus (first | omega | (simp; done) | (simp; omega)))) | (with_reducible refine bvia (unhide HB1) ?_ ?_; (focus (first | omega | (simp; done) | (simp; omega)))) | (with_reducible refine bvia (unhide HB2) ?_ ?_; (focus (first | omega | (simp; done) | (simp; omega)))) | (with_reducible refine bvia (unhide HB3) ?_ ?_; (focus (first | omega | (simp; done) | (simp; omega)))) | (with_reducible refine bvia (unhide HB4) ?_ ?_; (focus (first | omega | (simp; done) | (simp; omega)))) | (with_reducible refine bvia (unhide HB5) ?_ ?_; (focus (first | omega | (simp; done) | (simp; omega)))) | (with_reducible refine bvia (unhide HB6) ?_ ?_; (focus (first | omega | (simp; done) | (simp; omega)))))
end Go.Proofs.YtjfmiomopfjecabGreat

/- The walk of slotsref.Sum: the row of bits, and the rest of its division. -/
namespace Go.Proofs.YtjfmiomopfjecabGreat
open Go.RowKit

theorem infoInt : (Tryz.prog.info? 3).map (fun i => (i.zero, i.size, i.bytes)) = some (some (.int .i64 0), 1, 8) := by kernel_rfl

/-- a row of N bits -/
def tab (N : Nat) (f : Nat → Bool) : List Value := (List.range N).map fun j => Value.int .i64 ((f j).toNat : Int)
theorem tab_get {N : Nat} {f : Nat → Bool} {j : Nat} (h : j < N) : (tab N f)[j]? = some (Value.int .i64 ((f j).toNat : Int)) := by
  simp [tab, h]
theorem tab_congr {N : Nat} {f g : Nat → Bool} (h : ∀ j, j < N → f j = g j) : tab N f = tab N g := by
  unfold tab
  refine List.map_congr_left fun j hj => ?_
  rw [h j (List.mem_range.1 hj)]
theorem tab_set (N : Nat) (f : Nat → Bool) (j : Nat) (b : Bool) : (tab N f).set j (Value.int .i64 (b.toNat : Int)) = tab N (fun x => if x = j then b else f x) := by
  apply List.ext_getElem?
  intro k
  rw [List.getElem?_set]
  by_cases hk : k < N
  · by_cases e : j = k
    · subst e; simp [tab, hk]
    · have e' : ¬ k = j := fun h => e h.symm
      simp [tab, hk, e, e']
  · by_cases e : j = k
    · subst e; simp [tab, hk]
    · simp [tab, hk, e]
theorem tab_zero (n : Nat) : (madeCells (Value.int .i64 0).cells (n * 1)).toList = tab n (fun _ => false) := by
  show (madeCells #[Value.int .i64 0] (n * 1)).toList = _
  rw [Nat.mul_one, toList_madeCells_one]
  apply List.ext_getElem?
  intro k
  by_cases hk : k < n <;> simp [tab, hk]
theorem not_int (b : Bool) : (1 - (b.toNat : Int)) = ((!b).toNat : Int) := by cases b <;> rfl

theorem bit_int (c m : Nat) (h : c < 256) : bits BinOp.and IntKind.i64 ((c : Int) / 2 ^ m) 1 = ((c.testBit m).toNat : Int) := by
  have hd : c / 2 ^ m ≤ c := Nat.div_le_self _ _
  have e := M.and_i64 (c / 2 ^ m) 1 (by omega) (by omega)
  have e2 : ((c / 2 ^ m : Nat) : Int) = (c : Int) / 2 ^ m := by simp
  rw [e2] at e
  refine Eq.trans e ?_
  rw [Nat.and_one_is_mod, Nat.testBit_eq_decide_div_mod_eq]
  rcases Nat.mod_two_eq_zero_or_one (c / 2 ^ m) with h | h <;> simp [h]
theorem mbit_at (s : ByteArray) (k : Nat) (h : k / 8 < s.size) : M.mbit s.data.toList k = (s[k / 8]).toNat.testBit (7 - k % 8) := by
  unfold M.mbit
  rw [List.getD_eq_getElem?_getD, List.getElem?_eq_getElem (by simpa using h)]
  rfl
theorem stored_bit {w wr : World} {N k : Nat} {f g : Nat → Bool} {b : Bool} {x : Int} (hown : wr.ownsRow w.heap.size 3 1 (.slice (some ⟨w.heap.size, 0, none⟩) N N) N (tab N f))
    (hbel : Below w.heap.size w wr) (hx : x = (b.toNat : Int)) (hg : ∀ j, j < N → (if j = k then b else f j) = g j) :
    (wr.setCell ⟨w.heap.size, k, none⟩ (.int .i64 x)).ownsRow w.heap.size 3 1 (.slice (some ⟨w.heap.size, 0, none⟩) N N) N (tab N g) ∧ Below w.heap.size w (wr.setCell ⟨w.heap.size, k, none⟩ (.int .i64 x)) := by
  subst hx
  have h := (hown.stored k (.int .i64 (b.toNat : Int))).1
  rw [tab_set, tab_congr hg] at h
  exact ⟨h, hbel.setCell (Nat.le_refl _) _⟩

theorem flips {l : List UInt8} {w wr : World} {N k : Nat} (hown : wr.ownsRow w.heap.size 3 1 (.slice (some ⟨w.heap.size, 0, none⟩) N N) N (tab N (M.rowAt l k)))
    (hbel : Below w.heap.size w wr) (hb : M.rowAt l k k = true) :
    ((((wr.setCell ⟨w.heap.size, k, none⟩ (.int .i64 0)).setCell ⟨w.heap.size, k + 4, none⟩ (.int .i64 (1 - ((M.rowAt l k (k + 4)).toNat : Int)))).setCell ⟨w.heap.size, k + 11, none⟩ (.int .i64 (1 - ((M.rowAt l k (k + 11)).toNat : Int)))).setCell ⟨w.heap.size, k + 16, none⟩ (.int .i64 (1 - ((M.rowAt l k (k + 16)).toNat : Int)))).ownsRow w.heap.size 3 1 (.slice (some ⟨w.heap.size, 0, none⟩) N N) N (tab N (M.rowAt l (k + 1))) ∧
    Below w.heap.size w ((((wr.setCell ⟨w.heap.size, k, none⟩ (.int .i64 0)).setCell ⟨w.heap.size, k + 4, none⟩ (.int .i64 (1 - ((M.rowAt l k (k + 4)).toNat : Int)))).setCell ⟨w.heap.size, k + 11, none⟩ (.int .i64 (1 - ((M.rowAt l k (k + 11)).toNat : Int)))).setCell ⟨w.heap.size, k + 16, none⟩ (.int .i64 (1 - ((M.rowAt l k (k + 16)).toNat : Int)))) := by
  have h1 := stored_bit (k := k) (x := 0) (b := false) (g := fun j => if j = k then false else M.rowAt l k j) hown hbel rfl (fun _ _ => rfl)
  have h2 := stored_bit (k := k + 4) (b := !M.rowAt l k (k + 4)) (g := fun j => if j = k + 4 then !M.rowAt l k (k + 4) else if j = k then false else M.rowAt l k j) h1.1 h1.2 (not_int _) (fun _ _ => rfl)
  have h3 := stored_bit (k := k + 11) (b := !M.rowAt l k (k + 11)) (g := fun j => if j = k + 11 then !M.rowAt l k (k + 11) else if j = k + 4 then !M.rowAt l k (k + 4) else if j = k then false else M.rowAt l k j) h2.1 h2.2 (not_int _) (fun _ _ => rfl)
  refine stored_bit (k := k + 16) (b := !M.rowAt l k (k + 16)) h3.1 h3.2 (not_int _) ?_
  intro j _
  show _ = if M.rowAt l k k then (if j = k then false else M.rowAt l k j ^^ decide (j = k + 4 ∨ j = k + 11 ∨ j = k + 16)) else M.rowAt l k j
  rw [if_pos hb]
  by_cases e16 : j = k + 16
  · subst e16; simp
  · by_cases e11 : j = k + 11
    · subst e11; simp
    · by_cases e4 : j = k + 4
      · subst e4; simp
      · simp [e16, e11, e4]

set_option maxHeartbeats 1000000 in
theorem refSum_any (s : ByteArray) (w : World) (hs : s.size ≤ 1048576) :
    Calls Tryz.prog 153 #[.string s] w fun e w' => e = .returned (.int .i64 (M.crc s.data.toList)) ∧ Below w.heap.size w w' := by
  obtain ⟨i0, hi, hz0, hz1, hz2⟩ := info_parts infoInt
  go_enter Tryz.func153, Tryz.ntmps153
  go_wp2_with (at_make; refine wpList_make_full _ rfl _ _ 49 rfl w.heap.size 3 i0 (.int .i64 0) 1 Tryz.underlying49 hi hz0 hz1 .i64 .i64 _ _ (8 * s.size + 16) rfl rfl (by omega) (by omega) (by rw [hz2]; omega) (by unfold maxLen; omega) (Nat.le_refl _) ?_; intro w1 hown1 hgrow1)
  rw [tab_zero] at hown1
  have hbel1 : Below w.heap.size w w1 := (Below.refl _ _).grown hgrow1 (Nat.le_refl _) (by intro k hk; cases hk)
  clear hgrow1 hi hz0 hz1 hz2
  go_loopw [5] (fun i wr => ∃ k : Nat, k ≤ 8 * s.size ∧ i = .int .i64 k ∧ wr.ownsRow w.heap.size 3 1 (.slice (some ⟨w.heap.size, 0, none⟩) (8 * s.size + 16) (8 * s.size + 16)) (8 * s.size + 16) (tab (8 * s.size + 16) (fun j => decide (j < k) && M.mbit s.data.toList j)) ∧ Below w.heap.size w wr) (fun i _ => 8 * s.size - (intOf i).toNat)
  case atStart => exact ⟨0, by omega, rfl, by simpa using hown1, hbel1⟩
  case round =>
    obtain ⟨k, hk, rfl, hown, hbel⟩ := hrel
    clear hown1 hbel1
    by_cases hlt : k < 8 * s.size
    · have hfr := fun j => hown.frozenAt j
      have hcl := hown.cellAt k (by omega)
      rw [tab_get (by omega)] at hcl
      have h8 : k / 8 < s.size := by omega
      have hb : (s[k / 8]).toNat < 256 := (s[k / 8]).toNat_lt
      have R := stored_bit (k := k) (x := bits BinOp.and IntKind.i64 ((s[k / 8].toNat : Int) / 2 ^ (7 - k % 8)) 1) (g := fun j => decide (j < k + 1) && M.mbit s.data.toList j) hown hbel ((bit_int _ _ hb).trans (by rw [← mbit_at s k h8])) (by
        intro j _
        by_cases e : j = k
        · subst e; simp
        · have : (j < k + 1) = (j < k) := by apply propext; omega
          simp [e, this])
      have HR := hide R
      clear R hown hbel
      go_wp2
      go_roundw
      case rel => exact ⟨k + 1, by omega, by go_num, (unhide HR).1, (unhide HR).2⟩
      case measure => simp [intOf]; omega
    · have hk' : k = 8 * s.size := by omega
      subst hk'
      have hown2 : wr.ownsRow w.heap.size 3 1 (.slice (some ⟨w.heap.size, 0, none⟩) (8 * s.size + 16) (8 * s.size + 16)) (8 * s.size + 16) (tab (8 * s.size + 16) (fun j => M.mbit s.data.toList j ^^ decide (j < 0))) := by
        rw [tab_congr (g := fun j => M.mbit s.data.toList j ^^ decide (j < 0))] at hown
        · exact hown
        · intro j _
          by_cases e : j < 8 * s.size
          · simp [e]
          · rw [M.mbit_out _ _ (by simp; omega)]; simp
      clear hown hlt
      go_wp2
      go_loopw [6] (fun i wr => ∃ k : Nat, k ≤ 16 ∧ i = .int .i64 k ∧ wr.ownsRow w.heap.size 3 1 (.slice (some ⟨w.heap.size, 0, none⟩) (8 * s.size + 16) (8 * s.size + 16)) (8 * s.size + 16) (tab (8 * s.size + 16) (fun j => M.mbit s.data.toList j ^^ decide (j < k))) ∧ Below w.heap.size w wr) (fun i _ => 16 - (intOf i).toNat)
      case atStart => exact ⟨0, by omega, rfl, hown2, hbel⟩
      case round =>
        obtain ⟨k, hk, rfl, hown, hbel⟩ := hrel
        clear hown2
        by_cases hlt : k < 16
        · have hfr := fun j => hown.frozenAt j
          have hcl := hown.cellAt k (by omega)
          rw [tab_get (by omega)] at hcl
          have hbb := Bool.toNat_le (M.mbit s.data.toList k ^^ decide (k < k))
          have R := stored_bit (k := k) (x := 1 - (((M.mbit s.data.toList k ^^ decide (k < k)).toNat : Nat) : Int)) (g := fun j => M.mbit s.data.toList j ^^ decide (j < k + 1)) hown hbel (not_int _) (by
            intro j _
            by_cases e : j = k
            · subst e; simp
            · have : (j < k + 1) = (j < k) := by apply propext; omega
              simp [e, this])
          generalize (M.mbit s.data.toList k ^^ decide (k < k)).toNat = v at hcl R hbb
          have HR := hide R
          clear R hown hbel
          go_wp2
          go_roundw
          case rel => exact ⟨k + 1, by omega, by go_num, (unhide HR).1, (unhide HR).2⟩
          case measure => simp [intOf]; omega
        · have hk' : k = 16 := by omega
          subst hk'
          clear hlt
          have hown3 : wr.ownsRow w.heap.size 3 1 (.slice (some ⟨w.heap.size, 0, none⟩) (8 * s.size + 16) (8 * s.size + 16)) (8 * s.size + 16) (tab (8 * s.size + 16) (M.rowAt s.data.toList 0)) := hown
          clear hown
          go_wp2
          go_loopw [7] (fun i wr => ∃ k : Nat, k ≤ 8 * s.size ∧ i = .int .i64 k ∧ wr.ownsRow w.heap.size 3 1 (.slice (some ⟨w.heap.size, 0, none⟩) (8 * s.size + 16) (8 * s.size + 16)) (8 * s.size + 16) (tab (8 * s.size + 16) (M.rowAt s.data.toList k)) ∧ Below w.heap.size w wr) (fun i _ => 8 * s.size - (intOf i).toNat)
          case atStart => exact ⟨0, by omega, rfl, hown3, hbel⟩
          case round =>
            obtain ⟨k, hk, rfl, hown, hbel⟩ := hrel
            clear hown3
            by_cases hlt : k < 8 * s.size
            · have hfr := fun j => hown.frozenAt j
              have hcl0 := hown.cellAt k (by omega)
              rw [tab_get (by omega)] at hcl0
              cases hbit : M.rowAt s.data.toList k k
              · rw [hbit] at hcl0
                simp only [Bool.toNat_false] at hcl0
                rw [tab_congr (g := M.rowAt s.data.toList (k + 1)) (fun j _ => by simp [M.rowAt, hbit])] at hown
                have HR := hide hown
                have HB := hide hbel
                clear hown hbel hbit
                go_wp2
                go_roundw
                case rel => exact ⟨k + 1, by omega, by go_num, unhide HR, unhide HB⟩
                case measure => simp [intOf]; omega
              · rw [hbit] at hcl0
                simp only [Bool.toNat_true] at hcl0
                have hcl4 := hown.cellAt (k + 4) (by omega)
                rw [tab_get (by omega)] at hcl4
                have hcl11 := hown.cellAt (k + 11) (by omega)
                rw [tab_get (by omega)] at hcl11
                have hcl16 := hown.cellAt (k + 16) (by omega)
                rw [tab_get (by omega)] at hcl16
                have R := flips hown hbel hbit
                have hb4 := Bool.toNat_le (M.rowAt s.data.toList k (k + 4))
                have hb11 := Bool.toNat_le (M.rowAt s.data.toList k (k + 11))
                have hb16 := Bool.toNat_le (M.rowAt s.data.toList k (k + 16))
                generalize (M.rowAt s.data.toList k (k + 4)).toNat = b4 at *
                generalize (M.rowAt s.data.toList k (k + 11)).toNat = b11 at *
                generalize (M.rowAt s.data.toList k (k + 16)).toNat = b16 at *
                have HR := hide R
                clear R hown hbel hbit
                go_wp2
                go_roundw
                case rel => exact ⟨k + 1, by omega, by go_num, (unhide HR).1, (unhide HR).2⟩
                case measure => simp [intOf]; omega
            · have hk' : k = 8 * s.size := by omega
              subst hk'
              clear hlt
              have hlen : 8 * s.data.toList.length = 8 * s.size := by simp
              go_wp2
              go_loop [8, 9] (fun v i => ∃ k x : Nat, k ≤ 16 ∧ i = .int .i64 (8 * s.size + k : Nat) ∧ v = .int .i64 x ∧ Hid (x = M.tail s.data.toList k) ∧ x < 65536) (fun _ i => 8 * s.size + 16 - (intOf i).toNat)
              case atStart => exact ⟨0, 0, by omega, by go_num, rfl, (M.tail_zero _).symm, by omega⟩
              case round =>
                obtain ⟨k, x, hk, rfl, rfl, hx, hx1⟩ := hrel
                by_cases hlt : k < 16
                · have hcl := hown.cellAt (8 * s.size + k) (by omega)
                  rw [tab_get (by omega)] at hcl
                  have HT : Hid (2 * x + (M.rowAt s.data.toList (8 * s.size) (8 * s.size + k)).toNat = M.tail s.data.toList (k + 1)) := by
                    rw [M.tail_succ _ _ hlt, hlen, hx.out]; rfl
                  have hT := M.tail_lt s.data.toList (k + 1)
                  rw [← HT.out] at hT
                  have hb := Bool.toNat_le (M.rowAt s.data.toList (8 * s.size) (8 * s.size + k))
                  generalize (M.rowAt s.data.toList (8 * s.size) (8 * s.size + k)).toNat = b at *
                  clear hown hlen
                  go_wp2
                  go_round
                  case rel => exact ⟨k + 1, 2 * x + b, by omega, by go_num, by go_num, HT, hT⟩
                  case measure => simp [intOf]; omega
                · have hk' : k = 16 := by omega
                  subst hk'
                  clear hlt hlen
                  go_wp2
                  go_ret
                  exact ⟨ret_int (by rw [hx.out, M.tail_end]), hbel⟩
end Go.Proofs.YtjfmiomopfjecabGreat

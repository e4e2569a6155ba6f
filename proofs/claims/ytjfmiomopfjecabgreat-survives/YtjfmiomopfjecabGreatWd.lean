/- Texts laid together: DevKeep, DevKeep2, DevJob, DevStep, DevStep2, DevStep3, DevNew. -/
import Derived.Test.YtjfmiomopfjecabGreatWc
import Derived.Test.YtjfmiomopfjecabGreatWa
import Derived.Test.YtjfmiomopfjecabGreatWb
/- Every event keeps the device as it should be, wherever the power fails. -/
namespace Go.Proofs.YtjfmiomopfjecabGreat.M

/-- the device between two events, its age told -/
def Inv' (d : Dev) : Prop := (∃ w N, RecIs d.F w N) ∧ Good d.key d.F ∧ d.wait ≤ 8 ∧ 1 ≤ d.next ∧ d.next ≤ 8 ∧ d.age ≤ 5 ∧ (d.on = true → fld d.F 2 = 2 → d.age ≤ 4)
def Stays (key : ByteArray) (F : Nat → Nat) (l : List Wr) : Prop := ∀ c t, t ≤ 16 → (∃ w N, RecIs (cutAt F l c t) w N) ∧ Good key (cutAt F l c t)
def Fine (d : Dev) (p : Plan) : Prop := Stays d.key d.F p.ws ∧ p.wait ≤ 8 ∧ 1 ≤ p.next ∧ p.next ≤ 8 ∧ p.age ≤ 5 ∧ (p.on = true → fld (puts d.F p.ws) 2 = 2 → p.age ≤ 4)
theorem stays_nil {key : ByteArray} {F : Nat → Nat} {w N : Nat} (hr : RecIs F w N) (hg : Good key F) : Stays key F [] := by
  intro c t _
  rw [cutAt_all (Nat.zero_le _)]
  exact ⟨⟨w, N, hr⟩, hg⟩
theorem sameW_is {F : Nat → Nat} {w N : Nat} (h : RecIs F w N) (phase tries : Nat) : sameW F 0 phase tries = (1 - w, recB ((N + 1) % 256) (fld F 1) phase tries (fld F 4) (fld F 5) (fld F 6) (fld F 7) (fld F 8) (fld F 9) 0) := noteW_is h ..
theorem fld_lt {key : ByteArray} {F : Nat → Nat} (hg : Good key F) (i : Nat) : fld F i < 256 := hg.bytes _
theorem free_nil (F : Nat → Nat) : Free F [] := fun x hx => by cases hx
theorem stays_note {key : ByteArray} {F : Nat → Nat} {w N : Nat} (hr : RecIs F w N) (hg : Good key F) {kept phase tries there : Nat} (hk : kept ≤ 1) (hp : phase ≤ 2) (ht : tries ≤ 3) (hth : there < 256)
    (hold : isImage (imgOf F kept) = true) (hnew : phase = 2 → isImage (imgOf F (1 - kept)) = true) (hman : phase = 1 → ∃ at_, sealOf (mf F) 48 = some at_) :
    Stays key F [noteW F 0 kept phase tries (fld F 4) (fld F 5) (fld F 6) (fld F 7) (fld F 8) (fld F 9) there] := by
  intro c t htt
  rw [noteW_is hr]
  exact inv_record hr hg [] (free_nil F) (fun x hx => by cases hx) (recB_bytes (by omega) (by omega) (by omega) (by omega) (fld_lt hg _) (fld_lt hg _) (fld_lt hg _) (fld_lt hg _) (fld_lt hg _) (fld_lt hg _) hth _)
    (fun hb => good_note hr hg [] (fun x hx => by cases hx) hk hp ht hold hnew hman hb) c t htt
theorem stays_same {key : ByteArray} {F : Nat → Nat} {w N : Nat} (hr : RecIs F w N) (hg : Good key F) {phase tries : Nat} (hp : phase = 0 ∨ phase = 2 ∧ fld F 2 = 2) (ht : tries ≤ 3) : Stays key F [sameW F 0 phase tries] :=
  stays_note hr hg hg.kept (by omega) ht (by omega) hg.old (fun h => hg.new (by omega)) (fun h => by omega)
theorem note_phase {F : Nat → Nat} {w N : Nat} (hr : RecIs F w N) (os : List Wr) (ho : ∀ x ∈ os, 2 ≤ x.1) (kept phase tries l0 l1 a b c d there : Nat) : fld (puts F (os ++ [noteW F 0 kept phase tries l0 l1 a b c d there])) 2 = phase := by
  rw [noteW_is hr]
  exact (all_written hr os ho kept phase tries l0 l1 a b c d there).2.1 2 (by omega)
theorem fine_idle {d : Dev} (h : Inv' d) : Fine d (idle d) := by
  obtain ⟨⟨w, N, hr⟩, hg, h1, h2, h3, h4, h5⟩ := h
  exact ⟨stays_nil hr hg, h1, h2, h3, h4, h5⟩
theorem fine_fails {d : Dev} (h : Inv' d) (e : Nat) : Fine d (fails d e) := by
  obtain ⟨⟨w, N, hr⟩, hg, h1, h2, h3, h4, h5⟩ := h
  exact ⟨stays_nil hr hg, h1, h2, h3, h4, h5⟩
theorem fine_infers {d : Dev} (h : Inv' d) (s : ByteArray) : Fine d (infers d s) := by
  obtain ⟨⟨w, N, hr⟩, hg, h1, h2, h3, h4, h5⟩ := h
  exact ⟨stays_nil hr hg, h1, h2, h3, h4, h5⟩
theorem fine_off {d : Dev} (h : Inv' d) : Fine d { idle d with on := false } := by
  obtain ⟨⟨w, N, hr⟩, hg, h1, h2, h3, h4, h5⟩ := h
  exact ⟨stays_nil hr hg, h1, h2, h3, h4, fun hh => by cases hh⟩
theorem fine_boots {d : Dev} (h : Inv' d) : Fine d (boots d) := by
  obtain ⟨⟨w, N, hr⟩, hg, h1, h2, h3, h4, h5⟩ := h
  refine ⟨?_, by show 0 ≤ _; omega, by show 1 ≤ 1; omega, by show 1 ≤ 8; omega, by show 0 ≤ _; omega, fun _ _ => by show 0 ≤ _; omega⟩
  have ht := hg.tries
  show Stays d.key d.F (if fld d.F 2 = 2 then (if fld d.F 3 = 0 then [sameW d.F 0 0 0] else [sameW d.F 0 2 (fld d.F 3 - 1)]) else [])
  by_cases e : fld d.F 2 = 2
  · rw [if_pos e]
    by_cases e3 : fld d.F 3 = 0
    · rw [if_pos e3]
      exact stays_same hr hg (.inl rfl) (by omega)
    · rw [if_neg e3]
      exact stays_same hr hg (.inr ⟨rfl, e⟩) (by omega)
  · rw [if_neg e]
    exact stays_nil hr hg
theorem fine_confirms {d : Dev} (h : Inv' d) : Fine d (confirms d) := by
  unfold confirms
  by_cases e : fld d.F 2 ≠ 2
  · rw [if_pos e]
    exact fine_fails h 12
  · rw [if_neg e]
    have e2 : fld d.F 2 = 2 := by omega
    obtain ⟨⟨w, N, hr⟩, hg, h1, h2, h3, h4, h5⟩ := h
    have hk := hg.kept
    refine ⟨stays_note hr hg (by omega) (by omega) (by omega) (by omega) (hg.new e2) (fun h => by omega) (fun h => by omega), h1, h2, h3, h4, fun _ hh => ?_⟩
    exfalso
    have := note_phase hr [] (fun x hx => by cases hx) (1 - fld d.F 1) 0 0 (fld d.F 4) (fld d.F 5) (fld d.F 6) (fld d.F 7) (fld d.F 8) (fld d.F 9) 0
    rw [List.nil_append] at this
    rw [this] at hh
    omega
theorem same_phase {F : Nat → Nat} {w N : Nat} (hr : RecIs F w N) (phase tries : Nat) : fld (puts F [sameW F 0 phase tries]) 2 = phase := note_phase hr [] (fun x hx => by cases hx) ..
theorem stays_take {key : ByteArray} {F : Nat → Nat} {w N : Nat} (hr : RecIs F w N) (hg : Good key F) (hp : fld F 2 = 1) (i : Nat) (hi : i < 6) (s : ByteArray) {there : Nat} (hth : there < 256) :
    Stays key F [textW (5 + i) s 0, noteW F 0 (fld F 1) 1 (fld F 3) (fld F 4) (fld F 5) (fld F 6) (fld F 7) (fld F 8) (fld F 9) there] := by
  intro c t htt
  rw [noteW_is hr]
  have hk := hg.kept
  have ht := hg.tries
  have hfr : Free F [textW (5 + i) s 0] := by
    intro x hx
    simp only [List.mem_cons, List.not_mem_nil, or_false] at hx
    subst hx
    show 2 ≤ 5 + i ∧ 5 + i ≤ 22 ∧ (5 + i < 11 + 6 * fld F 1 ∨ 17 + 6 * fld F 1 ≤ 5 + i) ∧ (fld F 2 = 1 → 5 ≤ 5 + i) ∧ (fld F 2 = 2 → 5 + i ≤ 10)
    omega
  refine inv_record hr hg [textW (5 + i) s 0] hfr (fun x hx => ?_) (recB_bytes (by omega) (by omega) (by omega) (by omega) (fld_lt hg _) (fld_lt hg _) (fld_lt hg _) (fld_lt hg _) (fld_lt hg _) (fld_lt hg _) hth _)
    (fun hb => good_note hr hg [textW (5 + i) s 0] (fun x hx => ?_) hk (by omega) ht hg.old (fun h => by omega) (fun _ => ?_) hb) c t htt
  · simp only [List.mem_cons, List.not_mem_nil, or_false] at hx
    subst hx
    exact textW_bytes _ _ _
  · simp only [List.mem_cons, List.not_mem_nil, or_false] at hx
    subst hx
    show 2 ≤ 5 + i ∧ 5 + i ≤ 10
    omega
  · obtain ⟨at_, ha⟩ := hg.man hp
    refine ⟨at_, ?_⟩
    rw [sealOf_same (g := mf F)]
    · exact ha
    · intro j hj
      refine puts_out fun x hx => ?_
      simp only [List.mem_cons, List.not_mem_nil, or_false] at hx
      subst hx
      show 32 + j < 16 * (5 + i) ∨ 16 * (5 + i) + 16 ≤ 32 + j
      omega
theorem bit_lt {x i : Nat} (hx : x < 256) (hi : i < 6) (h : x / 2 ^ i % 2 ≠ 1) : x + 2 ^ i < 256 := by
  have hc : i = 0 ∨ i = 1 ∨ i = 2 ∨ i = 3 ∨ i = 4 ∨ i = 5 := by omega
  rcases hc with rfl | rfl | rfl | rfl | rfl | rfl <;> simp at h ⊢ <;> omega
end Go.Proofs.YtjfmiomopfjecabGreat.M

/- Every event keeps the device as it should be: chunks, manifests, installations; all events. -/
namespace Go.Proofs.YtjfmiomopfjecabGreat.M

theorem chunks_le {p : Nat} (h : p ≤ 96) : chunksN p ≤ 6 := by unfold chunksN; omega
theorem man_len {key : ByteArray} {F : Nat → Nat} (hg : Good key F) (hp : fld F 2 = 1) : 1 ≤ mf F 4 ∧ mf F 4 ≤ 96 ∧ 1 ≤ mf F 5 ∧ mf F 5 ≤ 96 := by
  obtain ⟨at_, ha⟩ := hg.man hp
  have := sealOf_le ha
  omega
theorem fine_takes {d : Dev} (h : Inv' d) (i : Int) (s : ByteArray) : Fine d (takes d i s) := by
  unfold takes
  by_cases e1 : fld d.F 2 ≠ 1
  · rw [if_pos e1]
    exact fine_fails h 12
  rw [if_neg e1]
  by_cases e2 : i < 0 ∨ (chunksN (mf d.F 4) : Int) ≤ i ∨ s.size ≠ chunkLen (mf d.F 4) i.toNat ∨ crc s.data.toList ≠ mf d.F (8 + 2 * i.toNat) * 256 + mf d.F (9 + 2 * i.toNat)
  · rw [if_pos e2]
    exact fine_fails h 14
  rw [if_neg e2]
  by_cases e3 : fld d.F 10 / 2 ^ i.toNat % 2 = 1
  · rw [if_pos e3]
    exact fine_idle h
  rw [if_neg e3]
  obtain ⟨⟨w, N, hr⟩, hg, h1, h2, h3, h4, h5⟩ := h
  have hp : fld d.F 2 = 1 := by omega
  have hm := man_len hg hp
  have hc := chunks_le hm.2.1
  have hi : i.toNat < 6 := by omega
  refine ⟨stays_take hr hg hp i.toNat hi s (bit_lt (fld_lt hg 10) hi e3), by show 0 ≤ _; omega, by show 1 ≤ 1; omega, by show 1 ≤ 8; omega, h4, fun _ hh => ?_⟩
  exfalso
  have := note_phase hr [textW (5 + i.toNat) s 0] (fun x hx => by simp only [List.mem_cons, List.not_mem_nil, or_false] at hx; subst hx; show 2 ≤ 5 + i.toNat; omega) (fld d.F 1) 1 (fld d.F 3) (fld d.F 4) (fld d.F 5) (fld d.F 6) (fld d.F 7) (fld d.F 8) (fld d.F 9) (fld d.F 10 + 2 ^ i.toNat)
  rw [show [textW (5 + i.toNat) s 0] ++ [noteW d.F 0 (fld d.F 1) 1 (fld d.F 3) (fld d.F 4) (fld d.F 5) (fld d.F 6) (fld d.F 7) (fld d.F 8) (fld d.F 9) (fld d.F 10 + 2 ^ i.toNat)] = [textW (5 + i.toNat) s 0, noteW d.F 0 (fld d.F 1) 1 (fld d.F 3) (fld d.F 4) (fld d.F 5) (fld d.F 6) (fld d.F 7) (fld d.F 8) (fld d.F 9) (fld d.F 10 + 2 ^ i.toNat)] from rfl] at this
  rw [this] at hh
  omega

/- manifests -/
def manPages (s : ByteArray) : List Wr := [textW 2 s 0, textW 3 s 16, textW 4 s 32]
theorem manPages_in {s : ByteArray} {x : Wr} (h : x ∈ manPages s) : 2 ≤ x.1 ∧ x.1 ≤ 4 := by
  simp only [manPages, List.mem_cons, List.not_mem_nil, or_false] at h
  rcases h with rfl | rfl | rfl
  · show 2 ≤ 2 ∧ 2 ≤ 4; omega
  · show 2 ≤ 3 ∧ 3 ≤ 4; omega
  · show 2 ≤ 4 ∧ 4 ≤ 4; omega
theorem manPages_bytes {s : ByteArray} {x : Wr} (h : x ∈ manPages s) : Bts x := by
  simp only [manPages, List.mem_cons, List.not_mem_nil, or_false] at h
  rcases h with rfl | rfl | rfl <;> exact textW_bytes _ _ _
theorem manPages_at (F : Nat → Nat) (s : ByteArray) {j : Nat} (hj : j < 48) : mf (puts F (manPages s)) j = bz s j := by
  show put (put (put F 2 (fun i => bz s (0 + i)) 16) 3 (fun i => bz s (16 + i)) 16) 4 (fun i => bz s (32 + i)) 16 (32 + j) = _
  by_cases h1 : j < 16
  · rw [put_out (by omega), put_out (by omega), show 32 + j = 16 * 2 + j from by omega, put_in h1, Nat.zero_add]
  · by_cases h2 : j < 32
    · rw [put_out (by omega), show 32 + j = 16 * 3 + (j - 16) from by omega, put_in (by omega)]
      congr 1
      omega
    · rw [show 32 + j = 16 * 4 + (j - 32) from by omega, put_in (by omega)]
      congr 1
      omega
theorem stays_offer {key s : ByteArray} {F : Nat → Nat} {w N : Nat} (hr : RecIs F w N) (hg : Good key F) (hp : fld F 2 = 0) (hm : isManifest key s = true) {tries : Nat} (ht : tries ≤ 3) :
    Stays key F (manPages s ++ [sameW F 0 1 tries]) := by
  intro c t htt
  rw [sameW_is hr]
  have hk := hg.kept
  have hfr : Free F (manPages s) := by
    intro x hx
    have := manPages_in hx
    omega
  refine inv_record hr hg (manPages s) hfr (fun x hx => manPages_bytes hx) (recB_bytes (by omega) (by omega) (by omega) (by omega) (fld_lt hg _) (fld_lt hg _) (fld_lt hg _) (fld_lt hg _) (fld_lt hg _) (fld_lt hg _) (by omega) _)
    (fun hb => good_note hr hg (manPages s) (fun x hx => by have := manPages_in hx; omega) hk (by omega) ht hg.old (fun h => by omega) (fun _ => ?_) hb) c t htt
  obtain ⟨at_, ha, _, _⟩ := man_seal hm
  have hsz := man_size hm
  refine ⟨at_, ?_⟩
  rw [sealOf_same (g := bz s) (fun j hj => manPages_at F s hj)]
  exact sealOf_more ha (by omega)
/-- one record, and then what another list of pages comes to -/
theorem cut_two (F : Nat → Nat) (x : Wr) (l : List Wr) (c t : Nat) : cutAt F (x :: l) c t = if c = 0 then put F x.1 x.2 t else cutAt (put F x.1 x.2 16) l (c - 1) t := by
  cases c with
  | zero => rfl
  | succ c =>
    rw [if_neg (by omega), Nat.add_sub_cancel]
    unfold cutAt
    rw [List.drop_succ_cons, List.take_succ_cons]
    cases l.drop c with
    | nil => rfl
    | cons y r => rfl
theorem stays_two {key : ByteArray} {F : Nat → Nat} {x : Wr} {l : List Wr} (h1 : Stays key F [x]) (h2 : Stays key (put F x.1 x.2 16) l) : Stays key F (x :: l) := by
  intro c t ht
  rw [cut_two]
  by_cases hc : c = 0
  · rw [if_pos hc]
    have := h1 0 t ht
    rw [cut_two, if_pos rfl] at this
    exact this
  · rw [if_neg hc]
    exact h2 (c - 1) t ht
theorem sameW_one {F : Nat → Nat} {w N : Nat} (h : RecIs F w N) (phase tries : Nat) : sameW F 1 phase tries = (w, recB (((N + 1) % 256 + 1) % 256) (fld F 1) phase tries (fld F 4) (fld F 5) (fld F 6) (fld F 7) (fld F 8) (fld F 9) 0) := by
  unfold sameW noteW
  rw [recAt_is h, fld_zero h, if_pos (by omega), show (N + 1 + 1) % 256 = ((N + 1) % 256 + 1) % 256 from by omega]
theorem fine_offers {d : Dev} (h : Inv' d) (s : ByteArray) : Fine d (offers d s) := by
  unfold offers
  by_cases e1 : fld d.F 2 = 2
  · rw [if_pos e1]
    exact fine_fails h 11
  rw [if_neg e1]
  by_cases e2 : isManifest d.key s = false
  · rw [if_pos e2]
    exact fine_fails h 13
  rw [if_neg e2]
  by_cases e3 : bz s 0 * 256 + bz s 1 ≤ keptV d.F ∨ bz s 2 * 256 + bz s 3 ≠ keptV d.F
  · rw [if_pos e3]
    exact fine_fails h 6
  rw [if_neg e3]
  have hm : isManifest d.key s = true := by
    cases hh : isManifest d.key s
    · exact absurd hh e2
    · rfl
  obtain ⟨⟨w, N, hr⟩, hg, h1, h2, h3, h4, h5⟩ := h
  have hph := hg.phase
  have htr := hg.tries
  by_cases e4 : fld d.F 2 = 1
  · rw [if_pos e4, if_pos e4]
    have hs1 := stays_same hr hg (phase := 0) (tries := fld d.F 3) (.inl rfl) htr
    have hw1 := hs1 1 16 (Nat.le_refl _)
    rw [cutAt_all (show [sameW d.F 0 0 (fld d.F 3)].length ≤ 1 from Nat.le_refl _)] at hw1
    obtain ⟨_, hg1⟩ := hw1
    have hall := all_written hr [] (fun x hx => by cases hx) (fld d.F 1) 0 (fld d.F 3) (fld d.F 4) (fld d.F 5) (fld d.F 6) (fld d.F 7) (fld d.F 8) (fld d.F 9) 0
    rw [List.nil_append] at hall
    have eF : puts d.F [sameW d.F 0 0 (fld d.F 3)] = puts d.F [((1 - w, recB ((N + 1) % 256) (fld d.F 1) 0 (fld d.F 3) (fld d.F 4) (fld d.F 5) (fld d.F 6) (fld d.F 7) (fld d.F 8) (fld d.F 9) 0) : Wr)] := by rw [sameW_is hr]
    have hr1 := hall.1
    have hf := hall.2.1
    rw [← eF] at hr1 hf
    have hp1 : fld (puts d.F [sameW d.F 0 0 (fld d.F 3)]) 2 = 0 := hf 2 (by omega)
    have hnote : sameW d.F 1 1 (fld d.F 3) = sameW (puts d.F [sameW d.F 0 0 (fld d.F 3)]) 0 1 (fld d.F 3) := by
      have q1 : fld (puts d.F [sameW d.F 0 0 (fld d.F 3)]) 1 = fld d.F 1 := hf 1 (by omega)
      have q4 : fld (puts d.F [sameW d.F 0 0 (fld d.F 3)]) 4 = fld d.F 4 := hf 4 (by omega)
      have q5 : fld (puts d.F [sameW d.F 0 0 (fld d.F 3)]) 5 = fld d.F 5 := hf 5 (by omega)
      have q6 : fld (puts d.F [sameW d.F 0 0 (fld d.F 3)]) 6 = fld d.F 6 := hf 6 (by omega)
      have q7 : fld (puts d.F [sameW d.F 0 0 (fld d.F 3)]) 7 = fld d.F 7 := hf 7 (by omega)
      have q8 : fld (puts d.F [sameW d.F 0 0 (fld d.F 3)]) 8 = fld d.F 8 := hf 8 (by omega)
      have q9 : fld (puts d.F [sameW d.F 0 0 (fld d.F 3)]) 9 = fld d.F 9 := hf 9 (by omega)
      have hw := hr.1
      rw [sameW_one hr, sameW_is hr1, q1, q4, q5, q6, q7, q8, q9, show 1 - (1 - w) = w from by omega]
    have hst : Stays d.key (puts d.F [sameW d.F 0 0 (fld d.F 3)]) (manPages s ++ [sameW d.F 1 1 (fld d.F 3)]) := by
      rw [hnote]
      exact stays_offer hr1 hg1 hp1 hm htr
    refine ⟨?_, by show 0 ≤ _; omega, by show 1 ≤ 1; omega, by show 1 ≤ 8; omega, h4, fun _ hh => ?_⟩
    · exact stays_two hs1 hst
    · exfalso
      have e5 : fld (puts (puts d.F [sameW d.F 0 0 (fld d.F 3)]) (manPages s ++ [sameW d.F 1 1 (fld d.F 3)])) 2 = 1 := by
        rw [hnote]
        exact note_phase hr1 (manPages s) (fun x hx => (manPages_in hx).1) ..
      have e6 : puts d.F ([sameW d.F 0 0 (fld d.F 3)] ++ [textW 2 s 0, textW 3 s 16, textW 4 s 32] ++ [sameW d.F 1 1 (fld d.F 3)]) = puts (puts d.F [sameW d.F 0 0 (fld d.F 3)]) (manPages s ++ [sameW d.F 1 1 (fld d.F 3)]) := rfl
      rw [e6, e5] at hh
      omega
  · rw [if_neg e4, if_neg e4]
    have hp : fld d.F 2 = 0 := by omega
    refine ⟨stays_offer hr hg hp hm htr, by show 0 ≤ _; omega, by show 1 ≤ 1; omega, by show 1 ≤ 8; omega, h4, fun _ hh => ?_⟩
    exfalso
    have e5 : fld (puts d.F (manPages s ++ [sameW d.F 0 1 (fld d.F 3)])) 2 = 1 := note_phase hr (manPages s) (fun x hx => (manPages_in hx).1) ..
    have e6 : puts d.F ([] ++ [textW 2 s 0, textW 3 s 16, textW 4 s 32] ++ [sameW d.F 0 1 (fld d.F 3)]) = puts d.F (manPages s ++ [sameW d.F 0 1 (fld d.F 3)]) := rfl
    rw [e6, e5] at hh
    omega

/- installations -/
theorem slotW_in {slot : Nat} {s : ByteArray} (hs : s.size ≤ 96) {x : Wr} (h : x ∈ slotW slot s) : 11 + 6 * slot ≤ x.1 ∧ x.1 < 17 + 6 * slot := by
  simp only [slotW, List.mem_map, List.mem_range] at h
  obtain ⟨i, hi, rfl⟩ := h
  have := chunks_le hs
  show 11 + 6 * slot ≤ 11 + 6 * slot + i ∧ 11 + 6 * slot + i < 17 + 6 * slot
  omega
theorem slotW_bytes {slot : Nat} {s : ByteArray} {x : Wr} (h : x ∈ slotW slot s) : Bts x := by
  simp only [slotW, List.mem_map, List.mem_range] at h
  obtain ⟨i, _, rfl⟩ := h
  exact textW_bytes _ _ _
theorem slotTo_at (F : Nat → Nat) (slot : Nat) (s : ByteArray) (k : Nat) {j : Nat} (hj : j < 16 * k) : puts F ((List.range k).map fun i => textW (11 + 6 * slot + i) s (16 * i)) (16 * (11 + 6 * slot) + j) = bz s j := by
  induction k with
  | zero => omega
  | succ k ih =>
    rw [List.range_succ, List.map_append, puts_append]
    show put (puts F _) (11 + 6 * slot + k) (fun i => bz s (16 * k + i)) 16 _ = _
    by_cases h : j < 16 * k
    · rw [put_out (by omega)]
      exact ih h
    · rw [show 16 * (11 + 6 * slot) + j = 16 * (11 + 6 * slot + k) + (j - 16 * k) from by omega, put_in (by omega)]
      congr 1
      omega
theorem slotW_at (F : Nat → Nat) (slot : Nat) (s : ByteArray) {j : Nat} (hj : j < s.size) : puts F (slotW slot s) (16 * (11 + 6 * slot) + j) = bz s j :=
  slotTo_at F slot s _ (by unfold chunksN; omega)
theorem built_ok {F : Nat → Nat} (h : (builtN F).1 = 0) : isImage (builtN F).2 = true ∧ (builtN F).2 = patchTxt (imgOf F (fld F 1)) (mk (mf F 4) fun j => F (80 + j)) (mf F 5) := by
  unfold builtN at *
  simp only at *
  split at h
  · cases h
  · rename_i h1
    rw [if_neg h1]
    split at h
    · cases h
    · rename_i h2
      rw [if_neg h2]
      split at h
      · cases h
      · rename_i h3
        rw [if_neg h3]
        split at h
        · cases h
        · rename_i h4
          rw [if_neg h4]
          refine ⟨?_, rfl⟩
          cases hh : isImage (patchTxt (imgOf F (fld F 1)) (mk (mf F 4) fun j => F (80 + j)) (mf F 5))
          · exact absurd hh h3
          · rfl
theorem image_size {s : ByteArray} (h : isImage s = true) : s.size ≤ 80 ∧ 1 ≤ s.size := by
  obtain ⟨_, _, _, h3, h4, h5, h6⟩ := headOk_eq (by unfold isImage at h; simp only [Bool.and_eq_true] at h; exact h.1)
  omega
/-- an image in the slot that is not kept, and a record by which it is on trial -/
theorem stays_install {key s : ByteArray} {F : Nat → Nat} {w N : Nat} (hr : RecIs F w N) (hg : Good key F) (hp : fld F 2 = 1) (hi : isImage s = true) {l0 l1 a b c d : Nat} (ha : a < 256) (hb : b < 256) (hc : c < 256) (hd : d < 256)
    (hl : fld F 1 = 0 ∧ l0 = fld F 4 ∧ l1 = s.size ∨ fld F 1 = 1 ∧ l0 = s.size ∧ l1 = fld F 5) :
    Stays key F (slotW (1 - fld F 1) s ++ [noteW F 0 (fld F 1) 2 3 l0 l1 a b c d 0]) := by
  intro k t htt
  rw [noteW_is hr]
  have hk := hg.kept
  have hsz := image_size hi
  have h4 := hg.len0
  have h5 := hg.len1
  have hin := fun x (hx : x ∈ slotW (1 - fld F 1) s) => slotW_in (by omega) hx
  have hfr : Free F (slotW (1 - fld F 1) s) := by
    intro x hx
    have := hin x hx
    omega
  refine inv_record hr hg (slotW (1 - fld F 1) s) hfr (fun x hx => slotW_bytes hx) (recB_bytes (by omega) (by omega) (by omega) (by omega) (by omega) (by omega) ha hb hc hd (by omega) _) (fun hby => ?_) k t htt
  obtain ⟨_, e, hout⟩ := all_written hr (slotW (1 - fld F 1) s) (fun x hx => (hfr x hx).1) (fld F 1) 2 3 l0 l1 a b c d 0
  have f1 : fld (puts F (slotW (1 - fld F 1) s ++ [(1 - w, recB ((N + 1) % 256) (fld F 1) 2 3 l0 l1 a b c d 0)])) 1 = fld F 1 := e 1 (by omega)
  have f2 : fld (puts F (slotW (1 - fld F 1) s ++ [(1 - w, recB ((N + 1) % 256) (fld F 1) 2 3 l0 l1 a b c d 0)])) 2 = 2 := e 2 (by omega)
  have f3 : fld (puts F (slotW (1 - fld F 1) s ++ [(1 - w, recB ((N + 1) % 256) (fld F 1) 2 3 l0 l1 a b c d 0)])) 3 = 3 := e 3 (by omega)
  have f4 : fld (puts F (slotW (1 - fld F 1) s ++ [(1 - w, recB ((N + 1) % 256) (fld F 1) 2 3 l0 l1 a b c d 0)])) 4 = l0 := e 4 (by omega)
  have f5 : fld (puts F (slotW (1 - fld F 1) s ++ [(1 - w, recB ((N + 1) % 256) (fld F 1) 2 3 l0 l1 a b c d 0)])) 5 = l1 := e 5 (by omega)
  have hold : imgOf (puts F (slotW (1 - fld F 1) s ++ [(1 - w, recB ((N + 1) % 256) (fld F 1) 2 3 l0 l1 a b c d 0)])) (fld F 1) = imgOf F (fld F 1) := by
    refine imgOf_same ?_ ?_ fun j hj => ?_
    · rcases hl with ⟨q, q0, _⟩ | ⟨q, _, q1⟩
      · rw [q]; rw [q] at f4; exact f4.trans q0
      · rw [q]; rw [q] at f5; exact f5.trans q1
    · rcases hl with ⟨q, _⟩ | ⟨q, _⟩
      · rw [q]; exact h4
      · rw [q]; exact h5
    · rw [hout _ (by omega)]
      exact puts_out fun x hx => by have := hin x hx; omega
  have hnew : imgOf (puts F (slotW (1 - fld F 1) s ++ [(1 - w, recB ((N + 1) % 256) (fld F 1) 2 3 l0 l1 a b c d 0)])) (1 - fld F 1) = s := by
    have hlen : fld (puts F (slotW (1 - fld F 1) s ++ [(1 - w, recB ((N + 1) % 256) (fld F 1) 2 3 l0 l1 a b c d 0)])) (4 + (1 - fld F 1)) = s.size := by
      rcases hl with ⟨q, _, q1⟩ | ⟨q, q0, _⟩
      · rw [show 4 + (1 - fld F 1) = 5 from by omega, f5]; exact q1
      · rw [show 4 + (1 - fld F 1) = 4 from by omega, f4]; exact q0
    unfold imgOf
    rw [hlen]
    refine Eq.trans (mk_congr fun j hj => ?_) (self_mk s).symm
    rw [hout _ (by omega)]
    exact slotW_at F _ s hj
  refine ⟨hby, by rw [f1]; exact hk, by rw [f2]; omega, by rw [f3]; omega, by rw [f4]; omega, by rw [f5]; omega, ?_, ?_, ?_⟩
  · rw [f1, hold]; exact hg.old
  · intro _; rw [f1, hnew]; exact hi
  · rw [f2]; intro h; omega
theorem fine_installs {d : Dev} (h : Inv' d) (hp : fld d.F 2 = 1) : Fine d (installs d) := by
  obtain ⟨⟨w, N, hr⟩, hg, h1, h2, h3, h4, h5⟩ := h
  unfold installs
  by_cases e : (builtN d.F).1 ≠ 0
  · rw [if_pos e]
    refine ⟨stays_same hr hg (.inl rfl) hg.tries, h1, h2, h3, h4, fun _ hh => ?_⟩
    exfalso
    rw [same_phase hr] at hh
    omega
  · rw [if_neg e]
    have hb := (built_ok (F := d.F) (by omega)).1
    have hk := hg.kept
    refine ⟨?_, h1, h2, h3, by show 0 ≤ _; omega, fun _ _ => by show 0 ≤ _; omega⟩
    show Stays d.key d.F (slotW (1 - fld d.F 1) (builtN d.F).2 ++ [_])
    by_cases hs : 1 - fld d.F 1 = 0
    · rw [if_pos hs]
      have e1 : fld d.F 1 = 1 := by omega
      have := stays_install hr hg hp hb (l0 := (builtN d.F).2.size) (l1 := fld d.F 5) (a := mf d.F 0) (b := mf d.F 1) (c := fld d.F 8) (d := fld d.F 9) (hg.bytes _) (hg.bytes _) (fld_lt hg _) (fld_lt hg _) (.inr ⟨e1, rfl, rfl⟩)
      rw [e1] at this ⊢
      exact this
    · rw [if_neg hs]
      have e1 : fld d.F 1 = 0 := by omega
      have := stays_install hr hg hp hb (l0 := fld d.F 4) (l1 := (builtN d.F).2.size) (a := fld d.F 6) (b := fld d.F 7) (c := mf d.F 0) (d := mf d.F 1) (fld_lt hg _) (fld_lt hg _) (hg.bytes _) (hg.bytes _) (.inl ⟨e1, rfl, rfl⟩)
      rw [e1] at this ⊢
      exact this
theorem fine_ticks {d : Dev} (h : Inv' d) (hon : d.on = true) : Fine d (ticks d) := by
  have h0 := h
  obtain ⟨⟨w, N, hr⟩, hg, h1, h2, h3, h4, h5⟩ := h
  unfold ticks
  by_cases e2 : fld d.F 2 = 2
  · rw [if_pos e2]
    have ha := h5 hon e2
    by_cases ea : 5 ≤ d.age + 1
    · rw [if_pos ea]
      refine ⟨stays_same hr hg (.inl rfl) (by omega), h1, h2, h3, by show d.age + 1 ≤ 5; omega, fun _ hh => ?_⟩
      exfalso
      rw [same_phase hr] at hh
      omega
    · rw [if_neg ea]
      exact ⟨stays_nil hr hg, h1, h2, h3, by show d.age + 1 ≤ 5; omega, fun _ _ => by show d.age + 1 ≤ 4; omega⟩
  rw [if_neg e2]
  by_cases e1 : fld d.F 2 = 1
  · rw [if_pos e1]
    cases missing d.F with
    | nil => exact fine_installs h0 e1
    | cons i l =>
      show Fine d (if d.wait ≤ 1 then _ else _)
      split
      · exact ⟨stays_nil hr hg, h3, by show 1 ≤ min 8 (2 * d.next); omega, by show min 8 (2 * d.next) ≤ 8; omega, h4, h5⟩
      · exact ⟨stays_nil hr hg, by show d.wait - 1 ≤ 8; omega, h2, h3, h4, h5⟩
  · rw [if_neg e1]
    exact fine_idle h0
theorem fine_planned {d : Dev} (h : Inv' d) (e : Ev) : Fine d (planned d e) := by
  unfold planned
  split
  · exact fine_fails h 7
  · split
    · exact fine_fails h 9
    · split
      · exact fine_fails h 8
      · rename_i hk _ hoff
        split
        · exact fine_off h
        · split
          · exact fine_boots h
          · rename_i _ hne2
            have hon : d.on = true := by
              cases ho : d.on
              · exact absurd ⟨hne2, ho⟩ hoff
              · rfl
            split
            · exact fine_ticks h hon
            · split
              · exact fine_infers h _
              · split
                · exact fine_offers h _
                · split
                  · exact fine_takes h _ _
                  · exact fine_confirms h
/-- whatever happens to a device, wherever the power fails: it stays as it should be -/
theorem inv_do {d : Dev} (h : Inv' d) (e : Ev) : Inv' (doM d e).1 := by
  obtain ⟨hst, p1, p2, p3, p4, p5⟩ := fine_planned h e
  unfold doM
  split
  · obtain ⟨q1, q2⟩ := hst e.cut.toNat (tornN e.torn) (tornN_le _)
    exact ⟨q1, q2, h.2.2.1, h.2.2.2.1, h.2.2.2.2.1, h.2.2.2.2.2.1, fun hh => by cases hh⟩
  · obtain ⟨q1, q2⟩ := hst (planned d e).ws.length 16 (Nat.le_refl _)
    rw [cutAt_all (Nat.le_refl _)] at q1 q2
    exact ⟨q1, q2, p1, p2, p3, p4, p5⟩
end Go.Proofs.YtjfmiomopfjecabGreat.M

/- A change of images: what stands in a device's flash while it comes over, wherever the power fails. -/
namespace Go.Proofs.YtjfmiomopfjecabGreat.M

structure Job where
  key : ByteArray
  old : ByteArray
  now : ByteArray
  base : Nat
  up : Nat
  patch : ByteArray
  man : ByteArray
def chunkT (j : Job) (i : Nat) : ByteArray := mk (chunkLen j.patch.size i) fun k => bz j.patch (16 * i + k)
structure JobOk (j : Job) : Prop where
  old : isImage j.old = true
  now : isImage j.now = true
  less : j.base < j.up
  top : j.up ≤ 65535
  least : 1 ≤ j.patch.size
  most : j.patch.size ≤ 96
  gives : patchRes j.old j.patch j.now.size = some j.now
  man : isManifest j.key j.man = true
  m0 : bz j.man 0 * 256 + bz j.man 1 = j.up
  m2 : bz j.man 2 * 256 + bz j.man 3 = j.base
  m4 : bz j.man 4 = j.patch.size
  m5 : bz j.man 5 = j.now.size
  m6 : bz j.man 6 * 256 + bz j.man 7 = crc j.now.data.toList
  chunk : ∀ i, i < chunksN j.patch.size → bz j.man (8 + 2 * i) * 256 + bz j.man (9 + 2 * i) = crc (chunkT j i).data.toList
  ex : bz j.man (8 + 2 * chunksN j.patch.size) = 1 →
    evalNum j.now (mk (bz j.man (8 + 2 * chunksN j.patch.size + 1)) fun k => bz j.man (8 + 2 * chunksN j.patch.size + 3 + k)) = 0 ∧
    evalTxt j.now (mk (bz j.man (8 + 2 * chunksN j.patch.size + 1)) fun k => bz j.man (8 + 2 * chunksN j.patch.size + 3 + k)) = mk (bz j.man (8 + 2 * chunksN j.patch.size + 2)) fun k => bz j.man (8 + 2 * chunksN j.patch.size + 3 + bz j.man (8 + 2 * chunksN j.patch.size + 1) + k)
/-- chunk i is there, by the record -/
def there (F : Nat → Nat) (i : Nat) : Prop := fld F 10 / 2 ^ i % 2 = 1
/-- the flash of a device that a change comes over to -/
structure Sj (j : Job) (F : Nat → Nat) : Prop where
  kept : (imgOf F (fld F 1) = j.old ∧ verOf F (fld F 1) = j.base) ∨ (imgOf F (fld F 1) = j.now ∧ verOf F (fld F 1) = j.up)
  trial : fld F 2 = 2 → imgOf F (fld F 1) = j.old ∧ verOf F (fld F 1) = j.base ∧ imgOf F (1 - fld F 1) = j.now ∧ verOf F (1 - fld F 1) = j.up
  fetch : fld F 2 = 1 → imgOf F (fld F 1) = j.old ∧ verOf F (fld F 1) = j.base ∧ (∀ i, i < 48 → mf F i = bz j.man i) ∧
    ∀ i, i < chunksN j.patch.size → there F i → ∀ k, k < chunkLen j.patch.size i → F (80 + 16 * i + k) = bz j.patch (16 * i + k)
theorem verOf_same {F F' : Nat → Nat} (h : ∀ i, i < 16 → fld F' i = fld F i) {slot : Nat} (hs : slot ≤ 1) : verOf F' slot = verOf F slot := by
  unfold verOf
  rw [h _ (by omega), h _ (by omega)]
theorem imgOf_keeps {key : ByteArray} {F F' : Nat → Nat} {w N : Nat} {os : List Wr} (hg : Good key F) (hk : Keeps F F' w N os) {slot : Nat} (hs : slot ≤ 1) (hx : ∀ x ∈ os, x.1 < 11 + 6 * slot ∨ 17 + 6 * slot ≤ x.1) : imgOf F' slot = imgOf F slot := by
  have hc : slot = 0 ∨ slot = 1 := by omega
  refine imgOf_same (hk.2.1 _ (by omega)) ?_ fun j hj => hk.2.2 _ (by omega) fun x hxo => ?_
  · rcases hc with rfl | rfl
    · exact hg.len0
    · exact hg.len1
  · have := hx x hxo
    omega
/-- nothing is lost where the record is what it was -/
theorem sj_keeps {j : Job} {key : ByteArray} {F F' : Nat → Nat} {w N : Nat} {os : List Wr} (h : Sj j F) (hg : Good key F) (hk : Keeps F F' w N os) (hf : Free F os)
    (hc : fld F 2 = 1 → ∀ i, i < chunksN j.patch.size → there F i → ∀ x ∈ os, x.1 ≠ 5 + i) : Sj j F' := by
  have e := hk.2.1
  have hk1 := hg.kept
  have e1 := e 1 (by omega)
  have e2 := e 2 (by omega)
  have iold := imgOf_keeps hg hk hk1 (fun x hx => (hf x hx).2.2.1)
  have vold := verOf_same e hk1
  refine ⟨?_, ?_, ?_⟩
  · rw [e1, iold, vold]; exact h.kept
  · rw [e1, e2]
    intro h2
    rw [iold, vold, imgOf_keeps hg hk (slot := 1 - fld F 1) (by omega) (fun x hx => by have := (hf x hx).2.2.2.2 h2; omega), verOf_same e (by omega)]
    exact h.trial h2
  · rw [e1, e2]
    intro h2
    obtain ⟨a1, a2, a3, a4⟩ := h.fetch h2
    rw [iold, vold]
    refine ⟨a1, a2, fun i hi => ?_, fun i hi ht k hkk => ?_⟩
    · rw [← a3 i hi]
      exact hk.2.2 _ (by omega) fun x hx => by have := (hf x hx).2.2.2.1 h2; omega
    · have ht' : there F i := by unfold there at *; rw [e 10 (by omega)] at ht; exact ht
      rw [← a4 i hi ht' k hkk]
      have hlen : chunkLen j.patch.size i ≤ 16 := Nat.min_le_left _ _
      exact hk.2.2 _ (by omega) fun x hx => by have := hc h2 i hi ht' x hx; omega
/-- a record alone, which leaves lengths and versions -/
theorem sj_note {j : Job} {key : ByteArray} {F : Nat → Nat} {w N : Nat} (hr : RecIs F w N) (hg : Good key F) {kept phase tries th : Nat} (os : List Wr) (ho : ∀ x ∈ os, 2 ≤ x.1 ∧ x.1 ≤ 10) (hk : kept ≤ 1)
    (hkept : (imgOf F kept = j.old ∧ verOf F kept = j.base) ∨ (imgOf F kept = j.now ∧ verOf F kept = j.up))
    (htrial : phase = 2 → imgOf F kept = j.old ∧ verOf F kept = j.base ∧ imgOf F (1 - kept) = j.now ∧ verOf F (1 - kept) = j.up)
    (hfetch : phase = 1 → imgOf F kept = j.old ∧ verOf F kept = j.base ∧ (∀ i, i < 48 → mf (puts F os) i = bz j.man i) ∧
      ∀ i, i < chunksN j.patch.size → th / 2 ^ i % 2 = 1 → ∀ k, k < chunkLen j.patch.size i → puts F os (80 + 16 * i + k) = bz j.patch (16 * i + k)) :
    Sj j (puts F (os ++ [noteW F 0 kept phase tries (fld F 4) (fld F 5) (fld F 6) (fld F 7) (fld F 8) (fld F 9) th])) := by
  rw [noteW_is hr]
  obtain ⟨_, e, hout⟩ := all_written hr os (fun x hx => (ho x hx).1) kept phase tries (fld F 4) (fld F 5) (fld F 6) (fld F 7) (fld F 8) (fld F 9) th
  generalize hG : puts F (os ++ [(1 - w, recB ((N + 1) % 256) kept phase tries (fld F 4) (fld F 5) (fld F 6) (fld F 7) (fld F 8) (fld F 9) th)]) = G at *
  have f1 : fld G 1 = kept := e 1 (by omega)
  have f2 : fld G 2 = phase := e 2 (by omega)
  have f4 : fld G 4 = fld F 4 := e 4 (by omega)
  have f5 : fld G 5 = fld F 5 := e 5 (by omega)
  have f6 : fld G 6 = fld F 6 := e 6 (by omega)
  have f7 : fld G 7 = fld F 7 := e 7 (by omega)
  have f8 : fld G 8 = fld F 8 := e 8 (by omega)
  have f9 : fld G 9 = fld F 9 := e 9 (by omega)
  have f10 : fld G 10 = th := e 10 (by omega)
  have himg : ∀ slot, slot ≤ 1 → imgOf G slot = imgOf F slot := by
    intro slot hs
    have hc : slot = 0 ∨ slot = 1 := by omega
    refine imgOf_same ?_ ?_ fun i hi => ?_
    · rcases hc with rfl | rfl
      · exact f4
      · exact f5
    · rcases hc with rfl | rfl
      · exact hg.len0
      · exact hg.len1
    · rw [hout _ (by omega)]
      exact puts_out fun x hx => by have := ho x hx; omega
  have hver : ∀ slot, slot ≤ 1 → verOf G slot = verOf F slot := by
    intro slot hs
    have hc : slot = 0 ∨ slot = 1 := by omega
    rcases hc with rfl | rfl
    · show 256 * fld G 6 + fld G 7 = 256 * fld F 6 + fld F 7
      rw [f6, f7]
    · show 256 * fld G 8 + fld G 9 = 256 * fld F 8 + fld F 9
      rw [f8, f9]
  refine ⟨?_, ?_, ?_⟩
  · rw [f1, himg _ hk, hver _ hk]; exact hkept
  · rw [f1, f2, himg _ hk, hver _ hk, himg _ (by omega), hver _ (by omega)]; exact htrial
  · rw [f1, f2, himg _ hk, hver _ hk]
    intro h2
    obtain ⟨a1, a2, a3, a4⟩ := hfetch h2
    refine ⟨a1, a2, fun i hi => ?_, fun i hi ht k hkk => ?_⟩
    · rw [← a3 i hi]
      exact hout _ (by omega)
    · unfold there at ht
      rw [f10] at ht
      rw [← a4 i hi ht k hkk]
      exact hout _ (by omega)
end Go.Proofs.YtjfmiomopfjecabGreat.M

/- Every event of a change leaves its device so that the change can go on, wherever the power fails. -/
namespace Go.Proofs.YtjfmiomopfjecabGreat.M

def SStays (j : Job) (F : Nat → Nat) (l : List Wr) : Prop := ∀ c t, t ≤ 16 → Sj j (cutAt F l c t)
theorem ss_nil {j : Job} {F : Nat → Nat} (h : Sj j F) : SStays j F [] := by
  intro c t _
  rw [cutAt_all (Nat.zero_le _)]
  exact h
theorem ss_record {j : Job} {key : ByteArray} {F : Nat → Nat} {w N : Nat} (hr : RecIs F w N) (hg : Good key F) (h : Sj j F) (os : List Wr) (hf : Free F os)
    (hc : fld F 2 = 1 → ∀ i, i < chunksN j.patch.size → there F i → ∀ x ∈ os, x.1 ≠ 5 + i) {kept phase tries l0 l1 a b c d th : Nat}
    (hnew : Sj j (puts F (os ++ [noteW F 0 kept phase tries l0 l1 a b c d th]))) : SStays j F (os ++ [noteW F 0 kept phase tries l0 l1 a b c d th]) := by
  intro k t ht
  rw [noteW_is hr] at hnew ⊢
  rcases cut_cases hr os (fun x hx => (hf x hx).1) kept phase tries l0 l1 a b c d th k t ht with e | e
  · rw [e]; exact hnew
  · exact sj_keeps h hg e hf hc
theorem ss_note {j : Job} {key : ByteArray} {F : Nat → Nat} {w N : Nat} (hr : RecIs F w N) (hg : Good key F) (h : Sj j F) {kept phase tries : Nat} (hk : kept ≤ 1) (hp : phase ≠ 1)
    (hkept : (imgOf F kept = j.old ∧ verOf F kept = j.base) ∨ (imgOf F kept = j.now ∧ verOf F kept = j.up))
    (htrial : phase = 2 → imgOf F kept = j.old ∧ verOf F kept = j.base ∧ imgOf F (1 - kept) = j.now ∧ verOf F (1 - kept) = j.up) :
    SStays j F [noteW F 0 kept phase tries (fld F 4) (fld F 5) (fld F 6) (fld F 7) (fld F 8) (fld F 9) 0] :=
  ss_record hr hg h [] (free_nil F) (fun _ i _ _ x hx => by cases hx) (sj_note hr hg [] (fun x hx => by cases hx) hk hkept htrial (fun h1 => absurd h1 hp))
theorem ss_same {j : Job} {key : ByteArray} {F : Nat → Nat} {w N : Nat} (hr : RecIs F w N) (hg : Good key F) (h : Sj j F) {phase tries : Nat} (hp : phase = 0 ∨ phase = 2 ∧ fld F 2 = 2) : SStays j F [sameW F 0 phase tries] :=
  ss_note hr hg h hg.kept (by omega) h.kept (fun h2 => h.trial (by omega))
/- what is put together out of the chunks -/
theorem seal_ex {g : Nat → Nat} {L at_ : Nat} (h : sealOf g L = some at_) (h1 : g (8 + 2 * chunksN (g 4)) = 1) : g (9 + 2 * chunksN (g 4)) ≤ 8 ∧ g (10 + 2 * chunksN (g 4)) ≤ 8 := by
  unfold sealOf at h
  by_cases e1 : L ≤ 5 ∨ g 4 < 1 ∨ 96 < g 4 ∨ g 5 < 1 ∨ 96 < g 5
  · rw [if_pos e1] at h; cases h
  rw [if_neg e1] at h
  by_cases e2 : L ≤ 8 + 2 * chunksN (g 4)
  · rw [if_pos e2] at h; cases h
  rw [if_neg e2, if_neg (by omega), if_pos h1] at h
  by_cases e5 : L ≤ 8 + 2 * chunksN (g 4) + 2 ∨ 8 < g (9 + 2 * chunksN (g 4)) ∨ 8 < g (10 + 2 * chunksN (g 4))
  · rw [if_pos e5] at h; cases h
  · omega
theorem missing_none {F : Nat → Nat} (h : missing F = []) : ∀ i, i < chunksN (mf F 4) → there F i := by
  intro i hi
  unfold missing at h
  rw [List.filter_eq_nil_iff] at h
  have := h i (List.mem_range.2 hi)
  unfold there
  simp only [decide_eq_true_eq] at this
  omega
theorem patch_there {j : Job} (hj : JobOk j) {F : Nat → Nat} (hch : ∀ i, i < chunksN j.patch.size → there F i → ∀ k, k < chunkLen j.patch.size i → F (80 + 16 * i + k) = bz j.patch (16 * i + k)) (hall : ∀ i, i < chunksN j.patch.size → there F i) :
    (mk j.patch.size fun k => F (80 + k)) = j.patch := by
  refine Eq.trans (mk_congr fun k hk => ?_) (self_mk j.patch).symm
  have hm := hj.most
  have hi : k / 16 < chunksN j.patch.size := by unfold chunksN; omega
  have hl : k % 16 < chunkLen j.patch.size (k / 16) := by unfold chunkLen; omega
  have := hch (k / 16) hi (hall _ hi) (k % 16) hl
  rw [show 80 + 16 * (k / 16) + k % 16 = 80 + k from by omega, show 16 * (k / 16) + k % 16 = k from by omega] at this
  exact this
theorem built_job {j : Job} (hj : JobOk j) {F : Nat → Nat} (h : Sj j F) (hp : fld F 2 = 1) (hm : missing F = []) : builtN F = (0, j.now) := by
  obtain ⟨a1, a2, a3, a4⟩ := h.fetch hp
  have q4 : mf F 4 = j.patch.size := (a3 4 (by omega)).trans hj.m4
  have q5 : mf F 5 = j.now.size := (a3 5 (by omega)).trans hj.m5
  have hall : ∀ i, i < chunksN j.patch.size → there F i := by rw [← q4]; exact missing_none hm
  have hpt := patch_there hj a4 hall
  have hc : chunksN j.patch.size ≤ 6 := chunks_le hj.most
  have p1 : patchTxt j.old j.patch j.now.size = j.now := by unfold patchTxt; rw [hj.gives]; rfl
  have p2 : patchNum j.old j.patch j.now.size = 0 := by unfold patchNum; rw [hj.gives]; rfl
  have q67 : mf F 6 * 256 + mf F 7 = crc j.now.data.toList := by rw [a3 6 (by omega), a3 7 (by omega)]; exact hj.m6
  unfold builtN
  simp only
  rw [a1, q4, q5, hpt, p1, p2, if_neg (by omega), if_neg (by rw [q67]; exact fun hh => hh rfl), if_neg (by rw [hj.now]; decide), if_neg]
  rintro ⟨h1, h2⟩
  rw [a3 _ (by omega)] at h1
  obtain ⟨at_, ha, _, _⟩ := man_seal hj.man
  have hx := seal_ex ha (by rw [hj.m4]; exact h1)
  rw [hj.m4] at hx
  obtain ⟨x1, x2⟩ := hj.ex h1
  have r1 : mf F (8 + 2 * chunksN j.patch.size + 1) = bz j.man (8 + 2 * chunksN j.patch.size + 1) := a3 _ (by omega)
  have r2 : mf F (8 + 2 * chunksN j.patch.size + 2) = bz j.man (8 + 2 * chunksN j.patch.size + 2) := a3 _ (by omega)
  have s1 : 8 + 2 * chunksN j.patch.size + 1 = 9 + 2 * chunksN j.patch.size := by omega
  have s2 : 8 + 2 * chunksN j.patch.size + 2 = 10 + 2 * chunksN j.patch.size := by omega
  have m1 : (mk (bz j.man (8 + 2 * chunksN j.patch.size + 1)) fun k => mf F (8 + 2 * chunksN j.patch.size + 3 + k)) = mk (bz j.man (8 + 2 * chunksN j.patch.size + 1)) fun k => bz j.man (8 + 2 * chunksN j.patch.size + 3 + k) :=
    mk_congr fun k hk => a3 _ (by rw [s1] at hk; omega)
  have m2 : (mk (bz j.man (8 + 2 * chunksN j.patch.size + 2)) fun k => mf F (8 + 2 * chunksN j.patch.size + 3 + bz j.man (8 + 2 * chunksN j.patch.size + 1) + k)) = mk (bz j.man (8 + 2 * chunksN j.patch.size + 2)) fun k => bz j.man (8 + 2 * chunksN j.patch.size + 3 + bz j.man (8 + 2 * chunksN j.patch.size + 1) + k) :=
    mk_congr fun k hk => a3 _ (by rw [s2] at hk; rw [s1]; omega)
  rw [r1, r2, m1, m2] at h2
  rcases h2 with h2 | h2
  · exact h2 x1
  · exact h2 x2
theorem bit_set {x i k : Nat} (hi : i < 6) (hk : k < 6) (h : x / 2 ^ i % 2 ≠ 1) (h2 : (x + 2 ^ i) / 2 ^ k % 2 = 1) (hne : k ≠ i) : x / 2 ^ k % 2 = 1 := by
  have hc : i = 0 ∨ i = 1 ∨ i = 2 ∨ i = 3 ∨ i = 4 ∨ i = 5 := by omega
  have hd : k = 0 ∨ k = 1 ∨ k = 2 ∨ k = 3 ∨ k = 4 ∨ k = 5 := by omega
  rcases hc with rfl | rfl | rfl | rfl | rfl | rfl <;> rcases hd with rfl | rfl | rfl | rfl | rfl | rfl <;> simp only [Nat.reducePow, Nat.div_one] at * <;> omega
end Go.Proofs.YtjfmiomopfjecabGreat.M

/- Every event of a change: chunks, the manifest, the installation, the confirmation. -/
namespace Go.Proofs.YtjfmiomopfjecabGreat.M

theorem chunk_size (j : Job) (i : Nat) : (chunkT j i).size = chunkLen j.patch.size i := mk_size _ _
theorem chunk_bz {j : Job} {i k : Nat} (hk : k < chunkLen j.patch.size i) : bz (chunkT j i) k = bz j.patch (16 * i + k) := bz_mk (fun _ _ => bz_lt _ _) hk
theorem ss_take {j : Job} (hj : JobOk j) {key : ByteArray} {F : Nat → Nat} {w N : Nat} (hr : RecIs F w N) (hg : Good key F) (h : Sj j F) (hp : fld F 2 = 1) {i : Nat} (hi : i < chunksN j.patch.size) (hno : fld F 10 / 2 ^ i % 2 ≠ 1) :
    SStays j F ([textW (5 + i) (chunkT j i) 0] ++ [noteW F 0 (fld F 1) 1 (fld F 3) (fld F 4) (fld F 5) (fld F 6) (fld F 7) (fld F 8) (fld F 9) (fld F 10 + 2 ^ i)]) := by
  have hk := hg.kept
  have hc : chunksN j.patch.size ≤ 6 := chunks_le hj.most
  obtain ⟨a1, a2, a3, a4⟩ := h.fetch hp
  have hin : ∀ x ∈ [textW (5 + i) (chunkT j i) 0], x = textW (5 + i) (chunkT j i) 0 := by
    intro x hx
    simpa using hx
  have hfr : Free F [textW (5 + i) (chunkT j i) 0] := by
    intro x hx
    rw [hin x hx]
    show 2 ≤ 5 + i ∧ 5 + i ≤ 22 ∧ (5 + i < 11 + 6 * fld F 1 ∨ 17 + 6 * fld F 1 ≤ 5 + i) ∧ (fld F 2 = 1 → 5 ≤ 5 + i) ∧ (fld F 2 = 2 → 5 + i ≤ 10)
    omega
  refine ss_record hr hg h _ hfr (fun _ k hk2 ht x hx => ?_) (sj_note hr hg _ (fun x hx => ?_) hk (.inl ⟨a1, a2⟩) (fun h2 => by omega) (fun _ => ⟨a1, a2, fun k hk2 => ?_, fun k hk2 ht m hm => ?_⟩))
  · rw [hin x hx]
    show 5 + i ≠ 5 + k
    intro he
    have : k = i := by omega
    subst this
    exact hno ht
  · rw [hin x hx]
    show 2 ≤ 5 + i ∧ 5 + i ≤ 10
    omega
  · rw [← a3 k hk2]
    refine puts_out fun x hx => ?_
    rw [hin x hx]
    show 32 + k < 16 * (5 + i) ∨ 16 * (5 + i) + 16 ≤ 32 + k
    omega
  · have hl : chunkLen j.patch.size k ≤ 16 := Nat.min_le_left _ _
    by_cases e : k = i
    · subst e
      show put F (5 + k) (fun q => bz (chunkT j k) (0 + q)) 16 (80 + 16 * k + m) = _
      rw [show 80 + 16 * k + m = 16 * (5 + k) + m from by omega, put_in (by omega), Nat.zero_add]
      exact chunk_bz hm
    · rw [← a4 k hk2 (bit_set (by omega) (by omega) hno ht e) m hm]
      refine puts_out fun x hx => ?_
      rw [hin x hx]
      show 80 + 16 * k + m < 16 * (5 + i) ∨ 16 * (5 + i) + 16 ≤ 80 + 16 * k + m
      omega
theorem ss_offer {j : Job} {key : ByteArray} {F : Nat → Nat} {w N : Nat} (hr : RecIs F w N) (hg : Good key F) (h : Sj j F) (hp : fld F 2 = 0) (ho : imgOf F (fld F 1) = j.old ∧ verOf F (fld F 1) = j.base) (tries : Nat) :
    SStays j F (manPages j.man ++ [sameW F 0 1 tries]) := by
  have hk := hg.kept
  have hfr : Free F (manPages j.man) := by
    intro x hx
    have := manPages_in hx
    omega
  refine ss_record hr hg h _ hfr (fun h1 => by omega) (sj_note hr hg _ (fun x hx => by have := manPages_in hx; omega) hk (.inl ho) (fun h2 => by omega) (fun _ => ⟨ho.1, ho.2, fun k hk2 => manPages_at F j.man hk2, fun k hk2 ht => ?_⟩))
  rw [Nat.zero_div] at ht
  omega
theorem ss_two {j : Job} {F : Nat → Nat} {x : Wr} {l : List Wr} (h1 : SStays j F [x]) (h2 : SStays j (put F x.1 x.2 16) l) : SStays j F (x :: l) := by
  intro c t ht
  rw [cut_two]
  by_cases hc : c = 0
  · rw [if_pos hc]
    have := h1 0 t ht
    rw [cut_two, if_pos rfl] at this
    exact this
  · rw [if_neg hc]
    exact h2 (c - 1) t ht
theorem ss_install {j : Job} (hj : JobOk j) {key : ByteArray} {F : Nat → Nat} {w N : Nat} (hr : RecIs F w N) (hg : Good key F) (h : Sj j F) (hp : fld F 2 = 1) {l0 l1 a b c d : Nat}
    (hl : fld F 1 = 0 ∧ l0 = fld F 4 ∧ l1 = j.now.size ∧ a = fld F 6 ∧ b = fld F 7 ∧ c = mf F 0 ∧ d = mf F 1 ∨ fld F 1 = 1 ∧ l0 = j.now.size ∧ l1 = fld F 5 ∧ a = mf F 0 ∧ b = mf F 1 ∧ c = fld F 8 ∧ d = fld F 9) :
    SStays j F (slotW (1 - fld F 1) j.now ++ [noteW F 0 (fld F 1) 2 3 l0 l1 a b c d 0]) := by
  have hk := hg.kept
  have hsz := image_size hj.now
  have h4 := hg.len0
  have h5 := hg.len1
  obtain ⟨a1, a2, a3, a4⟩ := h.fetch hp
  have hin := fun x (hx : x ∈ slotW (1 - fld F 1) j.now) => slotW_in (by omega) hx
  have hfr : Free F (slotW (1 - fld F 1) j.now) := by
    intro x hx
    have := hin x hx
    omega
  have hc6 : chunksN j.patch.size ≤ 6 := chunks_le hj.most
  refine ss_record hr hg h _ hfr (fun _ k hk2 _ x hx => by have := hin x hx; omega) ?_
  rw [noteW_is hr]
  obtain ⟨_, e, hout⟩ := all_written hr (slotW (1 - fld F 1) j.now) (fun x hx => (hfr x hx).1) (fld F 1) 2 3 l0 l1 a b c d 0
  generalize hG : puts F (slotW (1 - fld F 1) j.now ++ [(1 - w, recB ((N + 1) % 256) (fld F 1) 2 3 l0 l1 a b c d 0)]) = G at *
  have f1 : fld G 1 = fld F 1 := e 1 (by omega)
  have f2 : fld G 2 = 2 := e 2 (by omega)
  have f4 : fld G 4 = l0 := e 4 (by omega)
  have f5 : fld G 5 = l1 := e 5 (by omega)
  have f6 : fld G 6 = a := e 6 (by omega)
  have f7 : fld G 7 = b := e 7 (by omega)
  have f8 : fld G 8 = c := e 8 (by omega)
  have f9 : fld G 9 = d := e 9 (by omega)
  have m01 : 256 * mf F 0 + mf F 1 = j.up := by rw [a3 0 (by omega), a3 1 (by omega), Nat.mul_comm]; exact hj.m0
  have hold : imgOf G (fld F 1) = imgOf F (fld F 1) := by
    refine imgOf_same ?_ ?_ fun i hi => ?_
    · rcases hl with ⟨q, q0, _⟩ | ⟨q, _, q1, _⟩
      · rw [q]; exact f4.trans q0
      · rw [q]; exact f5.trans q1
    · rcases hl with ⟨q, _⟩ | ⟨q, _⟩
      · rw [q]; exact h4
      · rw [q]; exact h5
    · rw [hout _ (by omega)]
      exact puts_out fun x hx => by have := hin x hx; omega
  have vold : verOf G (fld F 1) = verOf F (fld F 1) := by
    rcases hl with ⟨q, _, _, q6, q7, _⟩ | ⟨q, _, _, _, _, q8, q9⟩
    · rw [q]
      show 256 * fld G 6 + fld G 7 = 256 * fld F 6 + fld F 7
      rw [f6, f7, q6, q7]
    · rw [q]
      show 256 * fld G 8 + fld G 9 = 256 * fld F 8 + fld F 9
      rw [f8, f9, q8, q9]
  have hnew : imgOf G (1 - fld F 1) = j.now := by
    have hlen : fld G (4 + (1 - fld F 1)) = j.now.size := by
      rcases hl with ⟨q, _, q1, _⟩ | ⟨q, q0, _⟩
      · rw [show 4 + (1 - fld F 1) = 5 from by omega, f5]; exact q1
      · rw [show 4 + (1 - fld F 1) = 4 from by omega, f4]; exact q0
    unfold imgOf
    rw [hlen]
    refine Eq.trans (mk_congr fun i hi => ?_) (self_mk j.now).symm
    rw [hout _ (by omega)]
    exact slotW_at F _ j.now hi
  have vnew : verOf G (1 - fld F 1) = j.up := by
    rcases hl with ⟨q, _, _, _, _, q8, q9⟩ | ⟨q, _, _, q6, q7, _⟩
    · rw [show 1 - fld F 1 = 1 from by omega]
      show 256 * fld G 8 + fld G 9 = _
      rw [f8, f9, q8, q9]; exact m01
    · rw [show 1 - fld F 1 = 0 from by omega]
      show 256 * fld G 6 + fld G 7 = _
      rw [f6, f7, q6, q7]; exact m01
  refine ⟨?_, ?_, ?_⟩
  · rw [f1, hold, vold]; exact .inl ⟨a1, a2⟩
  · intro _; rw [f1, hold, vold, hnew, vnew]; exact ⟨a1, a2, rfl, rfl⟩
  · rw [f2]; intro h1; omega
/-- the events of a change -/
def JobEv (j : Job) (e : Ev) : Prop := (e.kind ≠ 5 ∧ e.kind ≠ 6) ∨ (e.kind = 5 ∧ e.text = j.man) ∨ ∃ i : Nat, e.kind = 6 ∧ i < chunksN j.patch.size ∧ e.n = i ∧ e.text = chunkT j i
theorem ss_installs {j : Job} (hj : JobOk j) {d : Dev} (h : Inv' d) (hs : Sj j d.F) (hp : fld d.F 2 = 1) (hm : missing d.F = []) : SStays j d.F (installs d).ws := by
  obtain ⟨⟨w, N, hr⟩, hg, _⟩ := h
  have hb := built_job hj hs hp hm
  have hk := hg.kept
  unfold installs
  rw [hb, if_neg (by simp)]
  show SStays j d.F (slotW (1 - fld d.F 1) j.now ++ [if 1 - fld d.F 1 = 0 then noteW d.F 0 1 2 3 j.now.size (fld d.F 5) (mf d.F 0) (mf d.F 1) (fld d.F 8) (fld d.F 9) 0 else noteW d.F 0 0 2 3 (fld d.F 4) j.now.size (fld d.F 6) (fld d.F 7) (mf d.F 0) (mf d.F 1) 0])
  by_cases e : 1 - fld d.F 1 = 0
  · rw [if_pos e]
    have e1 : fld d.F 1 = 1 := by omega
    have := ss_install hj hr hg hs hp (l0 := j.now.size) (l1 := fld d.F 5) (a := mf d.F 0) (b := mf d.F 1) (c := fld d.F 8) (d := fld d.F 9) (.inr ⟨e1, rfl, rfl, rfl, rfl, rfl, rfl⟩)
    rw [e1] at this ⊢
    exact this
  · rw [if_neg e]
    have e1 : fld d.F 1 = 0 := by omega
    have := ss_install hj hr hg hs hp (l0 := fld d.F 4) (l1 := j.now.size) (a := fld d.F 6) (b := fld d.F 7) (c := mf d.F 0) (d := mf d.F 1) (.inl ⟨e1, rfl, rfl, rfl, rfl, rfl, rfl⟩)
    rw [e1] at this ⊢
    exact this
end Go.Proofs.YtjfmiomopfjecabGreat.M

/- Every event of a change keeps what the change needs, wherever the power fails. -/
namespace Go.Proofs.YtjfmiomopfjecabGreat.M

theorem after_same {key : ByteArray} {F : Nat → Nat} {w N : Nat} (hr : RecIs F w N) (hg : Good key F) {t : Nat} (ht : t ≤ 3) :
    RecIs (puts F [sameW F 0 0 t]) (1 - w) ((N + 1) % 256) ∧ Good key (puts F [sameW F 0 0 t]) ∧ fld (puts F [sameW F 0 0 t]) 2 = 0 ∧ fld (puts F [sameW F 0 0 t]) 1 = fld F 1 ∧ sameW F 1 1 t = sameW (puts F [sameW F 0 0 t]) 0 1 t := by
  have hs1 := stays_same hr hg (phase := 0) (tries := t) (.inl rfl) ht
  have hw1 := hs1 1 16 (Nat.le_refl _)
  rw [cutAt_all (show [sameW F 0 0 t].length ≤ 1 from Nat.le_refl _)] at hw1
  obtain ⟨_, hg1⟩ := hw1
  have hall := all_written hr [] (fun x hx => by cases hx) (fld F 1) 0 t (fld F 4) (fld F 5) (fld F 6) (fld F 7) (fld F 8) (fld F 9) 0
  rw [List.nil_append] at hall
  have eF : puts F [sameW F 0 0 t] = puts F [((1 - w, recB ((N + 1) % 256) (fld F 1) 0 t (fld F 4) (fld F 5) (fld F 6) (fld F 7) (fld F 8) (fld F 9) 0) : Wr)] := by rw [sameW_is hr]
  have hr1 := hall.1
  have hf := hall.2.1
  rw [← eF] at hr1 hf
  have q1 : fld (puts F [sameW F 0 0 t]) 1 = fld F 1 := hf 1 (by omega)
  have q4 : fld (puts F [sameW F 0 0 t]) 4 = fld F 4 := hf 4 (by omega)
  have q5 : fld (puts F [sameW F 0 0 t]) 5 = fld F 5 := hf 5 (by omega)
  have q6 : fld (puts F [sameW F 0 0 t]) 6 = fld F 6 := hf 6 (by omega)
  have q7 : fld (puts F [sameW F 0 0 t]) 7 = fld F 7 := hf 7 (by omega)
  have q8 : fld (puts F [sameW F 0 0 t]) 8 = fld F 8 := hf 8 (by omega)
  have q9 : fld (puts F [sameW F 0 0 t]) 9 = fld F 9 := hf 9 (by omega)
  have hw := hr.1
  refine ⟨hr1, hg1, hf 2 (by omega), q1, ?_⟩
  rw [sameW_one hr, sameW_is hr1, q1, q4, q5, q6, q7, q8, q9, show 1 - (1 - w) = w from by omega]
theorem kept_old {j : Job} (hj : JobOk j) {F : Nat → Nat} (h : Sj j F) (hv : verOf F (fld F 1) = j.base) : imgOf F (fld F 1) = j.old ∧ verOf F (fld F 1) = j.base := by
  have := hj.less
  rcases h.kept with k | k
  · exact k
  · omega
theorem ss_offers {j : Job} (hj : JobOk j) {d : Dev} (h : Inv' d) (hs : Sj j d.F) : SStays j d.F (offers d j.man).ws := by
  obtain ⟨⟨w, N, hr⟩, hg, _⟩ := h
  unfold offers
  by_cases e1 : fld d.F 2 = 2
  · rw [if_pos e1]; exact ss_nil hs
  rw [if_neg e1]
  by_cases e2 : isManifest d.key j.man = false
  · rw [if_pos e2]; exact ss_nil hs
  rw [if_neg e2]
  by_cases e3 : bz j.man 0 * 256 + bz j.man 1 ≤ keptV d.F ∨ bz j.man 2 * 256 + bz j.man 3 ≠ keptV d.F
  · rw [if_pos e3]; exact ss_nil hs
  rw [if_neg e3]
  have hv : verOf d.F (fld d.F 1) = j.base := by
    have := hj.m2
    unfold keptV at e3
    omega
  have ho := kept_old hj hs hv
  have hph := hg.phase
  have htr := hg.tries
  have hk := hg.kept
  by_cases e4 : fld d.F 2 = 1
  · rw [if_pos e4, if_pos e4]
    obtain ⟨hr1, hg1, hp1, q1, hn⟩ := after_same hr hg htr
    have hs1 := ss_same hr hg hs (phase := 0) (tries := fld d.F 3) (.inl rfl)
    have hS := hs1 1 16 (Nat.le_refl _)
    rw [cutAt_all (show [sameW d.F 0 0 (fld d.F 3)].length ≤ 1 from Nat.le_refl _)] at hS
    have hv1 : verOf (puts d.F [sameW d.F 0 0 (fld d.F 3)]) (fld (puts d.F [sameW d.F 0 0 (fld d.F 3)]) 1) = j.base := by
      have hall := all_written hr [] (fun x hx => by cases hx) (fld d.F 1) 0 (fld d.F 3) (fld d.F 4) (fld d.F 5) (fld d.F 6) (fld d.F 7) (fld d.F 8) (fld d.F 9) 0
      rw [List.nil_append, ← sameW_is hr] at hall
      rw [q1, ← hv]
      have hc : fld d.F 1 = 0 ∨ fld d.F 1 = 1 := by omega
      rcases hc with e | e
      · rw [e]
        show 256 * fld (puts d.F [sameW d.F 0 0 (fld d.F 3)]) 6 + fld (puts d.F [sameW d.F 0 0 (fld d.F 3)]) 7 = 256 * fld d.F 6 + fld d.F 7
        rw [hall.2.1 6 (by omega), hall.2.1 7 (by omega)]
        rfl
      · rw [e]
        show 256 * fld (puts d.F [sameW d.F 0 0 (fld d.F 3)]) 8 + fld (puts d.F [sameW d.F 0 0 (fld d.F 3)]) 9 = 256 * fld d.F 8 + fld d.F 9
        rw [hall.2.1 8 (by omega), hall.2.1 9 (by omega)]
        rfl
    have h2 := ss_offer hr1 hg1 hS hp1 (kept_old hj hS hv1) (fld d.F 3)
    rw [← hn] at h2
    exact ss_two hs1 h2
  · rw [if_neg e4, if_neg e4]
    exact ss_offer hr hg hs (by omega) ho (fld d.F 3)
theorem ss_takes {j : Job} (hj : JobOk j) {d : Dev} (h : Inv' d) (hs : Sj j d.F) {i : Nat} (hi : i < chunksN j.patch.size) : SStays j d.F (takes d i (chunkT j i)).ws := by
  obtain ⟨⟨w, N, hr⟩, hg, _⟩ := h
  unfold takes
  by_cases e1 : fld d.F 2 ≠ 1
  · rw [if_pos e1]; exact ss_nil hs
  rw [if_neg e1]
  split
  · exact ss_nil hs
  · rw [Int.toNat_natCast]
    split
    · exact ss_nil hs
    · rename_i e3
      exact ss_take hj hr hg hs (by omega) hi e3
theorem ss_confirms {j : Job} {d : Dev} (h : Inv' d) (hs : Sj j d.F) : SStays j d.F (confirms d).ws := by
  obtain ⟨⟨w, N, hr⟩, hg, _⟩ := h
  unfold confirms
  by_cases e : fld d.F 2 ≠ 2
  · rw [if_pos e]; exact ss_nil hs
  · rw [if_neg e]
    obtain ⟨_, _, t3, t4⟩ := hs.trial (by omega)
    have hk := hg.kept
    exact ss_note hr hg hs (by omega) (by omega) (.inr ⟨t3, t4⟩) (fun h2 => by omega)
theorem ss_boots {j : Job} {d : Dev} (h : Inv' d) (hs : Sj j d.F) : SStays j d.F (boots d).ws := by
  obtain ⟨⟨w, N, hr⟩, hg, _⟩ := h
  show SStays j d.F (if fld d.F 2 = 2 then (if fld d.F 3 = 0 then [sameW d.F 0 0 0] else [sameW d.F 0 2 (fld d.F 3 - 1)]) else [])
  by_cases e : fld d.F 2 = 2
  · rw [if_pos e]
    by_cases e3 : fld d.F 3 = 0
    · rw [if_pos e3]; exact ss_same hr hg hs (.inl rfl)
    · rw [if_neg e3]; exact ss_same hr hg hs (.inr ⟨rfl, e⟩)
  · rw [if_neg e]; exact ss_nil hs
theorem ss_ticks {j : Job} (hj : JobOk j) {d : Dev} (h : Inv' d) (hs : Sj j d.F) : SStays j d.F (ticks d).ws := by
  have h0 := h
  obtain ⟨⟨w, N, hr⟩, hg, _⟩ := h
  unfold ticks
  by_cases e2 : fld d.F 2 = 2
  · rw [if_pos e2]
    show SStays j d.F (if 5 ≤ d.age + 1 then [sameW d.F 0 0 0] else [])
    split
    · exact ss_same hr hg hs (.inl rfl)
    · exact ss_nil hs
  rw [if_neg e2]
  by_cases e1 : fld d.F 2 = 1
  · rw [if_pos e1]
    cases hm : missing d.F with
    | nil => exact ss_installs hj h0 hs e1 hm
    | cons i l =>
      show SStays j d.F (if d.wait ≤ 1 then _ else _ : Plan).ws
      split
      · exact ss_nil hs
      · exact ss_nil hs
  · rw [if_neg e1]; exact ss_nil hs
theorem ss_planned {j : Job} (hj : JobOk j) {d : Dev} (h : Inv' d) (hs : Sj j d.F) {e : Ev} (he : JobEv j e) : SStays j d.F (planned d e).ws := by
  unfold planned
  split
  · exact ss_nil hs
  split
  · exact ss_nil hs
  split
  · exact ss_nil hs
  split
  · exact ss_nil hs
  split
  · exact ss_boots h hs
  split
  · exact ss_ticks hj h hs
  split
  · exact ss_nil hs
  split
  · rename_i h5
    rcases he with ⟨h6, _⟩ | ⟨_, ht⟩ | ⟨i, h6, _⟩
    · exact absurd h5 h6
    · rw [ht]; exact ss_offers hj h hs
    · omega
  split
  · rename_i h6
    rcases he with ⟨_, h7⟩ | ⟨h7, _⟩ | ⟨i, _, hi, hn, ht⟩
    · exact absurd h6 h7
    · omega
    · rw [hn, ht]; exact ss_takes hj h hs hi
  · exact ss_confirms h hs
/-- what a change needs stays, whatever of its events come, wherever the power fails -/
theorem s_do {j : Job} (hj : JobOk j) {d : Dev} (h : Inv' d) (hs : Sj j d.F) {e : Ev} (he : JobEv j e) : Sj j (doM d e).1.F := by
  have hp := ss_planned hj h hs he
  unfold doM
  split
  · exact hp e.cut.toNat (tornN e.torn) (tornN_le _)
  · have := hp (planned d e).ws.length 16 (Nat.le_refl _)
    rw [cutAt_all (Nat.le_refl _)] at this
    exact this
end Go.Proofs.YtjfmiomopfjecabGreat.M

/- A new device in plain words. -/
namespace Go.Proofs.YtjfmiomopfjecabGreat.M

def newF (image : ByteArray) (version : Nat) : Nat → Nat := fun p =>
  if p = 0 then 1 else if p = 4 then image.size else if p = 6 then version / 256 else if p = 7 then version % 256 else if p = 15 then 1
  else if 176 ≤ p ∧ p < 176 + image.size then bz image (p - 176) else 0
def newD (key image : ByteArray) (version : Nat) : Dev := ⟨key, newF image version, true, 0, 1, 0⟩
theorem newF_rec (image : ByteArray) (version : Nat) : RecIs (newF image version) 0 1 := by
  refine ⟨by omega, by omega, rfl, rfl, ?_, ?_, ?_⟩
  · show newF image version 31 = 0
    unfold newF
    rw [if_neg (by omega), if_neg (by omega), if_neg (by omega), if_neg (by omega), if_neg (by omega), if_neg (by omega)]
  · show 1 < 256; omega
  · show newF image version 16 < 256
    unfold newF
    rw [if_neg (by omega), if_neg (by omega), if_neg (by omega), if_neg (by omega), if_neg (by omega), if_neg (by omega)]
    omega
theorem newF_fld (image : ByteArray) (version i : Nat) : fld (newF image version) i = newF image version i := by
  unfold fld
  rw [recAt_is (newF_rec image version), Nat.mul_zero, Nat.zero_add]
theorem newF_at {image : ByteArray} {version j : Nat} (hj : j < image.size) : newF image version (176 + j) = bz image j := by
  unfold newF
  rw [if_neg (by omega), if_neg (by omega), if_neg (by omega), if_neg (by omega), if_neg (by omega), if_pos ⟨by omega, by omega⟩, show 176 + j - 176 = j from by omega]
theorem newF_nought {image : ByteArray} {version i : Nat} (h0 : i ≠ 0) (h4 : i ≠ 4) (h6 : i ≠ 6) (h7 : i ≠ 7) (h15 : i ≠ 15) (h : i < 176) : newF image version i = 0 := by
  unfold newF
  rw [if_neg h0, if_neg h4, if_neg h6, if_neg h7, if_neg h15, if_neg (by omega)]
theorem newF_img (image : ByteArray) (version : Nat) : imgOf (newF image version) 0 = image := by
  unfold imgOf
  have e : fld (newF image version) (4 + 0) = image.size := by rw [newF_fld]; rfl
  rw [e]
  refine Eq.trans (mk_congr fun j hj => ?_) (self_mk image).symm
  rw [show 16 * (11 + 6 * 0) + j = 176 + j from by omega]
  exact newF_at hj
theorem newF_ver (image : ByteArray) (version : Nat) : verOf (newF image version) 0 = version := by
  unfold verOf
  rw [newF_fld, newF_fld]
  show 256 * (version / 256) + version % 256 = version
  omega
theorem new_good {key image : ByteArray} {version : Nat} (hi : isImage image = true) (hv : version ≤ 65535) : Inv' (newD key image version) := by
  have hsz := image_size hi
  have n1 : fld (newF image version) 1 = 0 := by rw [newF_fld]; exact newF_nought (by omega) (by omega) (by omega) (by omega) (by omega) (by omega)
  have n2 : fld (newF image version) 2 = 0 := by rw [newF_fld]; exact newF_nought (by omega) (by omega) (by omega) (by omega) (by omega) (by omega)
  have n3 : fld (newF image version) 3 = 0 := by rw [newF_fld]; exact newF_nought (by omega) (by omega) (by omega) (by omega) (by omega) (by omega)
  have n4 : fld (newF image version) 4 = image.size := by rw [newF_fld]; rfl
  have n5 : fld (newF image version) 5 = 0 := by rw [newF_fld]; exact newF_nought (by omega) (by omega) (by omega) (by omega) (by omega) (by omega)
  refine ⟨⟨0, 1, newF_rec image version⟩, ⟨?_, ?_, ?_, ?_, ?_, ?_, ?_, ?_, ?_⟩, by show 0 ≤ 8; omega, by show 1 ≤ 1; omega, by show 1 ≤ 8; omega, by show 0 ≤ 5; omega, fun _ _ => by show 0 ≤ 4; omega⟩
  · intro p
    show newF image version p < 256
    unfold newF
    exact ite_lt (by omega) (ite_lt (by omega) (ite_lt (by omega) (ite_lt (by omega) (ite_lt (by omega) (ite_lt (bz_lt _ _) (by omega))))))
  · show fld (newF image version) 1 ≤ 1; omega
  · show fld (newF image version) 2 ≤ 2; omega
  · show fld (newF image version) 3 ≤ 3; omega
  · show fld (newF image version) 4 ≤ 96; omega
  · show fld (newF image version) 5 ≤ 96; omega
  · show isImage (imgOf (newF image version) (fld (newF image version) 1)) = true
    rw [n1, newF_img]; exact hi
  · intro h
    have : fld (newF image version) 2 = 2 := h
    omega
  · intro h
    have : fld (newF image version) 2 = 1 := h
    omega
theorem new_sj (j : Job) : Sj j (newD j.key j.old j.base).F := by
  have n1 : fld (newF j.old j.base) 1 = 0 := by rw [newF_fld]; exact newF_nought (by omega) (by omega) (by omega) (by omega) (by omega) (by omega)
  have n2 : fld (newF j.old j.base) 2 = 0 := by rw [newF_fld]; exact newF_nought (by omega) (by omega) (by omega) (by omega) (by omega) (by omega)
  refine ⟨.inl ?_, fun h => ?_, fun h => ?_⟩
  · show imgOf (newF j.old j.base) (fld (newF j.old j.base) 1) = j.old ∧ verOf (newF j.old j.base) (fld (newF j.old j.base) 1) = j.base
    rw [n1, newF_img, newF_ver]
    exact ⟨rfl, rfl⟩
  · have : fld (newF j.old j.base) 2 = 2 := h
    omega
  · have : fld (newF j.old j.base) 2 = 1 := h
    omega
end Go.Proofs.YtjfmiomopfjecabGreat.M

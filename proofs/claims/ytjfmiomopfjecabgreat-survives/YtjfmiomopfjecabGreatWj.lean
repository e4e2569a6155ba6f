/- Texts laid together: DevDone, DevWrap, KeepRun, NodeImage, NodeNet, NodeAsk, KeepServe. -/
import Derived.Test.YtjfmiomopfjecabGreatWi
import Derived.Test.YtjfmiomopfjecabGreatWe
import Derived.Test.YtjfmiomopfjecabGreatWc
import Derived.BigQuiet
import Derived.Test.YtjfmiomopfjecabGreatWa
import Derived.Test.YtjfmiomopfjecabGreatWb
import Derived.Test.YtjfmiomopfjecabGreatWd
import Derived.Test.YtjfmiomopfjecabGreatWf
import Derived.Test.YtjfmiomopfjecabGreatWg
import Derived.Test.YtjfmiomopfjecabGreatWh
/- What the program does at an event is what the document says. -/
namespace Go.Proofs.YtjfmiomopfjecabGreat
open Go.RowKit Go.Lib

/-- a device in memory is this one; what it remembers counts only while it is on -/
def DevRel (W : World) (b : Nat) (t : TypeId) (d : M.Dev) : Prop :=
  ∃ wait next age, DevAt W b t d.key d.F d.on wait next age ∧ (d.on = true → wait = d.wait ∧ next = d.next ∧ age = d.age)
theorem DevRel.lt {W : World} {b : Nat} {t : TypeId} {d : M.Dev} (h : DevRel W b t d) : b < W.heap.size := by
  obtain ⟨_, _, _, hd, _⟩ := h
  exact hd.lt
theorem DevRel.kept {W W' : World} {b : Nat} {t : TypeId} {d : M.Dev} (h : DevRel W b t d) (hb : Below W.heap.size W W') : DevRel W' b t d := by
  obtain ⟨x, y, z, hd, hm⟩ := h
  exact ⟨x, y, z, hd.kept hb, hm⟩
theorem DevRel.only {W W' : World} {b : Nat} {t : TypeId} {d : M.Dev} {p : Nat → Prop} (h : DevRel W b t d) (ho : Only p W W') (hn : ¬ p b) : DevRel W' b t d := by
  obtain ⟨x, y, z, hd, hm⟩ := h
  exact ⟨x, y, z, (ho.block b hd.lt hn).trans hd, hm⟩
/-- the answer, as it lies in memory -/
abbrev rpV (r : M.Rp) : Value := repV r.err r.ver r.text r.ask
def Played (W : World) (b : Nat) (t : TypeId) (d : M.Dev) (e : M.Ev) (x : Ending) (w' : World) : Prop := x = .returned (rpV (M.doM d e).2) ∧ DevRel w' b t (M.doM d e).1 ∧ Only (· = b) W w'
theorem lasts_cuts {e : M.Ev} {l : List GW} {p : M.Plan} (hl : Link l p) : lastsB e.cut l.length = !M.cuts e p.ws := by
  have h := length_res hl.2.2
  rw [gwsOf_length] at h
  unfold lastsB M.cuts
  rw [h]
theorem written_is {F : Nat → Nat} {e : M.Ev} {l : List GW} {p : M.Plan} (hl : Link l p) : writtenF F l e.cut e.torn = if M.cuts e p.ws = true then M.cutAt F p.ws e.cut.toNat (M.tornN e.torn) else M.puts F p.ws := by
  have h := length_res hl.2.2
  rw [gwsOf_length] at h
  unfold writtenF M.cuts
  by_cases hc : 0 ≤ e.cut ∧ e.cut < l.length
  · rw [if_pos hc, if_pos (by rw [← h]; exact decide_eq_true hc), cut_res hl.2.2 _ _ (M.tornN_le _)]
  · rw [if_neg hc, if_neg (by rw [← h, decide_eq_false hc]; decide), puts_res hl.2.2]
section
variable {d : M.Dev} {W w' : World} {b : Nat} {t : TypeId} {e : M.Ev} {x : Ending}
/-- nothing is done but that an error is answered -/
theorem played_fails {n : Nat} (hn : n ≠ 0) (hp : M.planned d e = M.fails d n) (hrel : DevRel W b t d) (hx : x = .returned (repV n 0 ⟨#[]⟩ (-1))) (hb : Below W.heap.size W w') : Played W b t d e x w' := by
  have hc : M.cuts e (M.planned d e).ws = false := by rw [hp]; unfold M.cuts M.fails; simp
  have ed : M.doM d e = (⟨d.key, d.F, d.on, d.wait, d.next, d.age⟩, ⟨n, 0, ⟨#[]⟩, -1⟩) := by
    unfold M.doM
    rw [hc, if_neg (by decide), hp]
    refine congrArg (Prod.mk _) ?_
    show M.Rp.mk n (if n = 0 ∧ d.on = true then _ else 0) ⟨#[]⟩ (-1) = _
    rw [if_neg (fun h => hn h.1)]
  unfold Played
  rw [ed]
  exact ⟨hx, hrel.kept hb, Only.of hb⟩
theorem played_post {p : M.Plan} (hp : M.planned d e = p) {l : List GW} (hl : Link l p) {wait' next' age' : Nat} {ver : Nat} (herr : p.err ≠ 0 → p.text = ⟨#[]⟩ ∧ p.ask = -1) (hmem : p.on = true → wait' = p.wait ∧ next' = p.next ∧ age' = p.age)
    (hver : ver = if p.on = true then M.verOf (M.puts d.F p.ws) (M.servedD (M.puts d.F p.ws)) else 0)
    (h : DoPost W b t d.key (writtenF d.F l e.cut e.torn) p.on wait' next' age' p.err ver p.text p.ask (lastsB e.cut l.length) x w') : Played W b t d e x w' := by
  obtain ⟨h1, h2, h3⟩ := h
  rw [written_is hl] at h1 h2
  rw [lasts_cuts hl] at h1 h2
  unfold Played
  cases hc : M.cuts e p.ws
  · rw [hc] at h2
    obtain ⟨hd, he, hk⟩ := h2 rfl
    rw [if_neg (by decide)] at hd
    have ed : M.doM d e = (⟨d.key, M.puts d.F p.ws, p.on, p.wait, p.next, p.age⟩, ⟨p.err, if p.err = 0 ∧ p.on = true then M.verOf (M.puts d.F p.ws) (M.servedD (M.puts d.F p.ws)) else 0, p.text, p.ask⟩) := by
      unfold M.doM
      rw [hp, hc, if_neg (by decide)]
    rw [ed]
    refine ⟨?_, ⟨wait', next', age', hd, hmem⟩, h3⟩
    by_cases h0 : p.err = 0
    · rw [hk (by omega), hver]
      show Ending.returned (repV 0 _ _ _) = Ending.returned (repV p.err _ _ _)
      rw [h0]
      by_cases ho : p.on = true
      · rw [if_pos ho, if_pos ⟨rfl, ho⟩]; rfl
      · rw [if_neg ho, if_neg (fun h => ho h.2)]; rfl
    · rw [he (by omega)]
      show Ending.returned (repV p.err 0 ⟨#[]⟩ (-1)) = Ending.returned (repV p.err (if p.err = 0 ∧ p.on = true then _ else 0 : Nat) p.text p.ask)
      rw [if_neg (fun h => h0 h.1), (herr h0).1, (herr h0).2]
      rfl
  · rw [hc] at h1
    obtain ⟨hx, hd⟩ := h1 rfl
    rw [if_pos rfl] at hd
    have ed : M.doM d e = ({ d with F := M.cutAt d.F p.ws e.cut.toNat (M.tornN e.torn), on := false }, ⟨10, 0, ⟨#[]⟩, -1⟩) := by
      unfold M.doM
      rw [hp, hc, if_pos rfl]
    rw [ed]
    exact ⟨hx, ⟨0, 0, 0, hd, fun h => by cases h⟩, h3⟩
theorem ticks_on (d : M.Dev) : (M.ticks d).on = d.on := by
  unfold M.ticks
  by_cases h2 : M.fld d.F 2 = 2
  · rw [if_pos h2]
  · rw [if_neg h2]
    by_cases h1 : M.fld d.F 2 = 1
    · rw [if_pos h1]
      cases M.missing d.F with
      | nil =>
        show (M.installs d).on = d.on
        unfold M.installs
        split <;> rfl
      | cons i r =>
        show (if d.wait ≤ 1 then _ else _ : M.Plan).on = d.on
        split <;> rfl
    · rw [if_neg h1]
      rfl
theorem ticks_err (d : M.Dev) (h : (M.ticks d).err ≠ 0) : (M.ticks d).text = ⟨#[]⟩ ∧ (M.ticks d).ask = -1 := by
  unfold M.ticks at *
  by_cases h2 : M.fld d.F 2 = 2
  · rw [if_pos h2]
    exact ⟨rfl, rfl⟩
  · rw [if_neg h2] at h ⊢
    by_cases h1 : M.fld d.F 2 = 1
    · rw [if_pos h1] at h ⊢
      cases hm : M.missing d.F with
      | nil =>
        show (M.installs d).text = ⟨#[]⟩ ∧ (M.installs d).ask = -1
        unfold M.installs
        split <;> exact ⟨rfl, rfl⟩
      | cons i r =>
        rw [hm] at h
        have h' : (if d.wait ≤ 1 then (⟨[], 0, ⟨#[]⟩, i, d.next, min 8 (2 * d.next), d.age, d.on⟩ : M.Plan) else ⟨[], 0, ⟨#[]⟩, -1, d.wait - 1, d.next, d.age, d.on⟩).err ≠ 0 := h
        exfalso
        by_cases hw : d.wait ≤ 1
        · rw [if_pos hw] at h'; exact h' rfl
        · rw [if_neg hw] at h'; exact h' rfl
    · rw [if_neg h1]
      exact ⟨rfl, rfl⟩
theorem offers_on (d : M.Dev) (s : ByteArray) : (M.offers d s).on = d.on ∧ (M.offers d s).text = ⟨#[]⟩ ∧ (M.offers d s).ask = -1 := by
  unfold M.offers
  split
  · exact ⟨rfl, rfl, rfl⟩
  · split
    · exact ⟨rfl, rfl, rfl⟩
    · split <;> exact ⟨rfl, rfl, rfl⟩
theorem takes_on (d : M.Dev) (i : Int) (s : ByteArray) : (M.takes d i s).on = d.on ∧ (M.takes d i s).text = ⟨#[]⟩ ∧ (M.takes d i s).ask = -1 := by
  unfold M.takes
  split
  · exact ⟨rfl, rfl, rfl⟩
  · split
    · exact ⟨rfl, rfl, rfl⟩
    · split <;> exact ⟨rfl, rfl, rfl⟩
theorem confirms_on (d : M.Dev) : (M.confirms d).on = d.on ∧ (M.confirms d).text = ⟨#[]⟩ ∧ (M.confirms d).ask = -1 := by
  unfold M.confirms
  split <;> exact ⟨rfl, rfl, rfl⟩
/-- an event behind which the device is on -/
theorem play_on (hI : M.Inv' d) {wait next age : Nat} (hd : DevAt W b t d.key d.F d.on wait next age) {p : M.Plan} (hp : M.planned d e = p) (hon : p.on = true) (herr : p.err ≠ 0 → p.text = ⟨#[]⟩ ∧ p.ask = -1) {l : List GW} (hl : Link l p)
    (hrf : ∀ (X : World) (_ : DevAt X b t d.key d.F d.on wait next age), Calls Tryz.prog 107 #[.pointer (some ⟨b, 0, none⟩), .int .i64 e.kind] X fun y w' => y = .returned (.int .i64 0) ∧ X = w')
    (hout : ∀ (X : World) (_ : DevAt X b t d.key d.F d.on wait next age), Calls Tryz.prog 109 #[.pointer (some ⟨b, 0, none⟩), evV e.kind e.n e.text e.cut e.torn] X fun y w' => OutRaw X p.on p.wait p.next p.age p.err p.text p.ask l y w') :
    Calls Tryz.prog 77 #[.pointer (some ⟨b, 0, none⟩), evV e.kind e.n e.text e.cut e.torn] W fun y w' => Played W b t d e y w' := by
  have hI2 := M.inv_do hI e
  have hst : (p.err : Int) = 0 → lastsB e.cut l.length = true → ∀ (X : World) (_ : DevAt X b t d.key (writtenF d.F l e.cut e.torn) p.on p.wait p.next p.age), Calls Tryz.prog 61 #[.pointer (some ⟨b, 0, none⟩)] X fun y w' => y = .returned (.agg #[.bool true, .int .i64 (M.fld (M.puts d.F p.ws) 2), .int .i64 (M.servedD (M.puts d.F p.ws)), .int .i64 (M.verOf (M.puts d.F p.ws) (M.servedD (M.puts d.F p.ws))), .int .i64 (M.verOf (M.puts d.F p.ws) (M.fld (M.puts d.F p.ws) 1)), .int .i64 (M.fld (M.puts d.F p.ws) 3), .int .i64 (if M.fld (M.puts d.F p.ws) 2 = 1 then (M.missing (M.puts d.F p.ws)).length else 0 : Nat)]) ∧ Below X.heap.size X w' := by
    intro _ hls X hX
    rw [lasts_cuts hl] at hls
    have hc : M.cuts e p.ws = false := by
      cases h : M.cuts e p.ws
      · rfl
      · rw [h] at hls; cases hls
    rw [written_is hl, hc, if_neg (by decide), hon] at hX
    have ed : (M.doM d e).1 = ⟨d.key, M.puts d.F p.ws, p.on, p.wait, p.next, p.age⟩ := by
      unfold M.doM
      rw [hp, hc, if_neg (by decide)]
    rw [ed] at hI2
    exact stat_on hI2 hX
  refine (rawDo hd e.kind e.n e.text e.cut e.torn hrf p.on p.wait p.next p.age p.err p.text p.ask l hl.1 hl.2.1 hout true _ _ _ _ _ _ hst).mono ?_
  intro y w' hy
  exact played_post hp hl herr (fun _ => ⟨rfl, rfl, rfl⟩) (by rw [if_pos hon]) hy
theorem devDo_any (hI : M.Inv' d) (hz : M.Tz d.F) (hk : d.key.size ≤ 16) (e : M.Ev) (ht : e.text.size ≤ maxLen) (hrel : DevRel W b t d) :
    Calls Tryz.prog 77 #[.pointer (some ⟨b, 0, none⟩), evV e.kind e.n e.text e.cut e.torn] W fun y w' => Played W b t d e y w' := by
  obtain ⟨wait, next, age, hd, hm⟩ := id hrel
  have hF := hI.2.1.bytes
  by_cases hkd : e.kind < 1 ∨ 7 < e.kind
  · have hp : M.planned d e = M.fails d 7 := if_pos hkd
    refine (rawDo_refused hd e.kind e.n e.text e.cut e.torn 7 (by decide) (fun X _ => refuse_kind e.kind hkd X b)).mono ?_
    rintro y w' ⟨hy, hb⟩
    exact played_fails (by decide) hp hrel hy hb
  by_cases ho : d.on = true
  · obtain ⟨rfl, rfl, rfl⟩ := hm ho
    by_cases hk2 : e.kind = 2
    · have hp : M.planned d e = M.fails d 9 := by unfold M.planned; rw [if_neg hkd, if_pos ⟨hk2, ho⟩]
      rw [ho] at hd
      refine (rawDo_refused hd e.kind e.n e.text e.cut e.torn 9 (by decide) (fun X hX => by rw [hk2]; exact refuse_on hX)).mono ?_
      rintro y w' ⟨hy, hb⟩
      exact played_fails (by decide) hp hrel hy hb
    have hrf : ∀ (X : World) (_ : DevAt X b t d.key d.F d.on d.wait d.next d.age), Calls Tryz.prog 107 #[.pointer (some ⟨b, 0, none⟩), .int .i64 e.kind] X fun y w' => y = .returned (.int .i64 0) ∧ X = w' := by
      intro X hX
      rw [ho] at hX
      exact refuse_no_on hX e.kind (by omega) (by omega) hk2
    have hrec : ∀ (X : World) (_ : DevAt X b t d.key d.F d.on d.wait d.next d.age), Calls Tryz.prog 80 #[.pointer (some ⟨b, 0, none⟩)] X fun y w' => y = .returned (recF d.F) ∧ Below X.heap.size X w' := fun X hX => devRecord_any hX hF
    have hp0 : M.planned d e = if e.kind = 1 then { M.idle d with on := false } else if e.kind = 3 then M.ticks d else if e.kind = 4 then M.infers d e.text else if e.kind = 5 then M.offers d e.text else if e.kind = 6 then M.takes d e.n e.text else M.confirms d := by
      unfold M.planned
      rw [if_neg hkd, if_neg (fun h => hk2 h.1), if_neg (fun h => by rw [ho] at h; cases h.2), if_neg hk2]
    by_cases h1 : e.kind = 1
    · rw [if_pos h1] at hp0
      have hl : Link [] (M.planned d e) := link_none (by rw [hp0]; rfl)
      refine (rawDo hd e.kind e.n e.text e.cut e.torn hrf false 0 0 0 0 ⟨#[]⟩ (-1) [] hl.1 hl.2.1 (fun X hX => by rw [h1]; exact outcome_1 hX e.n e.text e.cut e.torn (hrec)) false 0 0 0 0 0 0 (fun _ _ X hX => devStatus_off hX)).mono ?_
      intro y w' hy
      refine played_post (p := M.planned d e) (ver := 0) rfl hl (fun h => absurd rfl (by rw [hp0] at h; exact h)) (fun h => by rw [hp0] at h; cases h) (by rw [hp0]; rfl) (wait' := 0) (next' := 0) (age' := 0) ?_
      rw [hp0]
      exact hy
    rw [if_neg h1] at hp0
    by_cases h3 : e.kind = 3
    · rw [if_pos h3] at hp0
      obtain ⟨l, hl, hrun⟩ := ev_tick hI hz
      exact play_on hI hd hp0 (by rw [ticks_on]; exact ho) (ticks_err d) hl hrf (fun X hX => by rw [h3]; exact outcome_3 hX e.n e.text e.cut e.torn hrec _ _ _ _ _ _ _ l (fun X2 hX2 => hrun X2 b t hX2))
    rw [if_neg h3] at hp0
    by_cases h4 : e.kind = 4
    · rw [if_pos h4] at hp0
      obtain ⟨l, hl, hrun⟩ := ev_infer hI e.text ht
      refine play_on hI hd hp0 ho (fun h => ⟨?_, rfl⟩) hl hrf (fun X hX => by rw [h4]; exact outcome_4 hX e.n e.text e.cut e.torn hrec _ _ _ _ _ _ _ l (fun X2 hX2 => hrun X2 b t hX2))
      refine eval_no fun h0 => h ?_
      show (evalNum (M.imgOf d.F (M.servedD d.F)) e.text).toNat = 0
      rw [h0]
      rfl
    rw [if_neg h4] at hp0
    by_cases h5 : e.kind = 5
    · rw [if_pos h5] at hp0
      obtain ⟨l, hl, hrun⟩ := ev_offer hI hz hk e.text ht
      exact play_on hI hd hp0 (by rw [(offers_on d e.text).1]; exact ho) (fun _ => (offers_on d e.text).2) hl hrf (fun X hX => by rw [h5]; exact outcome_5 hX e.n e.text e.cut e.torn hrec _ _ _ _ _ _ _ l (fun X2 hX2 => hrun X2 b t hX2))
    rw [if_neg h5] at hp0
    by_cases h6 : e.kind = 6
    · rw [if_pos h6] at hp0
      obtain ⟨l, hl, hrun⟩ := ev_chunk hI e.n e.text ht
      exact play_on hI hd hp0 (by rw [(takes_on d e.n e.text).1]; exact ho) (fun _ => (takes_on d e.n e.text).2) hl hrf (fun X hX => by rw [h6]; exact outcome_6 hX e.n e.text e.cut e.torn hrec _ _ _ _ _ _ _ l (fun X2 hX2 => hrun X2 b t hX2))
    rw [if_neg h6] at hp0
    have h7 : e.kind = 7 := by omega
    obtain ⟨l, hl, hrun⟩ := ev_confirm hI
    exact play_on hI hd hp0 (by rw [(confirms_on d).1]; exact ho) (fun _ => (confirms_on d).2) hl hrf (fun X hX => by rw [h7]; exact outcome_7 hX e.n e.text e.cut e.torn hrec _ _ _ _ _ _ _ l (fun X2 hX2 => hrun X2 b t hX2))
  · have hof : d.on = false := by
      cases h : d.on
      · rfl
      · exact absurd h ho
    by_cases hk2 : e.kind = 2
    · have hp : M.planned d e = M.boots d := by
        unfold M.planned
        rw [if_neg hkd, if_neg (fun h => ho h.2), if_neg (fun h => h.1 hk2), if_neg (by omega), if_pos hk2]
      obtain ⟨l, hl, hrun⟩ := ev_boot hI
      refine play_on hI hd hp rfl (fun h => absurd rfl h) hl (fun X hX => ?_) (fun X hX => by rw [hk2]; exact outcome_2 hX e.n e.text e.cut e.torn (fun X2 hX2 => devRecord_any hX2 hF) _ _ _ _ _ _ _ l (fun X2 _ => hrun X2))
      rw [hk2]
      rw [hof] at hX
      exact refuse_no_off hX
    · have hp : M.planned d e = M.fails d 8 := by
        unfold M.planned
        rw [if_neg hkd, if_neg (fun h => hk2 h.1), if_pos ⟨hk2, hof⟩]
      rw [hof] at hd
      refine (rawDo_refused hd e.kind e.n e.text e.cut e.torn 8 (by decide) (fun X hX => refuse_off hX e.kind (by omega) (by omega) hk2)).mono ?_
      rintro y w' ⟨hy, hb⟩
      exact played_fails (by decide) hp hrel hy hb
end
end Go.Proofs.YtjfmiomopfjecabGreat

/- The calls of a device: Do, Status, Page. -/
namespace Go.Proofs.YtjfmiomopfjecabGreat
open Go.RowKit Go.Lib

/-- what a device tells -/
def statOf (d : M.Dev) : Value := if d.on = true then statV d.F (if M.fld d.F 2 = 1 then (M.missing d.F).length else 0) else statNo
section
variable {d : M.Dev} {W : World} {b : Nat} {t : TypeId}
theorem devStatus_any (hI : M.Inv' d) (hrel : DevRel W b t d) :
    Calls Tryz.prog 61 #[.pointer (some ⟨b, 0, none⟩)] W fun e w' => e = .returned (statOf d) ∧ Below W.heap.size W w' := by
  obtain ⟨x, y, z, hd, hm⟩ := hrel
  unfold statOf
  by_cases ho : d.on = true
  · rw [if_pos ho]
    rw [ho] at hd
    exact stat_on hI hd
  · rw [if_neg ho]
    have hof : d.on = false := by
      cases h : d.on
      · rfl
      · exact absurd h ho
    rw [hof] at hd
    exact devStatus_off hd
theorem statOf_shape (d : M.Dev) : ∃ (sb : Bool) (i1 i2 i3 i4 i5 i6 : Int), statOf d = .agg #[.bool sb, .int .i64 i1, .int .i64 i2, .int .i64 i3, .int .i64 i4, .int .i64 i5, .int .i64 i6] := by
  unfold statOf
  split
  · exact ⟨_, _, _, _, _, _, _, rfl⟩
  · exact ⟨_, _, _, _, _, _, _, rfl⟩
set_option maxRecDepth 10000 in
theorem slotsStatus_any (hI : M.Inv' d) (hrel : DevRel W b t d) :
    Calls Tryz.prog 43 #[.pointer (some ⟨b, 0, none⟩)] W fun e w' => e = .returned (statOf d) ∧ Below W.heap.size W w' := by
  have HR := hide hrel
  have HS := hide (fun (X : World) (hX : DevRel X b t d) => devStatus_any hI hX)
  obtain ⟨sb, i1, i2, i3, i4, i5, i6, e⟩ := statOf_shape d
  rw [e] at HS ⊢
  clear hrel hI e
  go_enter Tryz.func43, Tryz.ntmps43
  go_wp2_with fail
  refine (unhide HS _ (DevRel.kept (unhide HR) ((Below.refl _ _).alloc (Nat.le_refl _) _))).mono ?_
  rintro e w1 ⟨rfl, hb1⟩
  obtain ⟨k1, hs1, hb⟩ := blk1 hb1
  obtain ⟨hx1, hf1⟩ := block_facts k1
  have HB := hide hb
  clear hb hb1 k1
  have l1 : W.heap.size < w1.heap.size := (by omega); have n1 : ¬ W.heap.size = w1.heap.size := (by omega)
  go_wp2
  refine bodyPost_ret (v := .agg #[.bool sb, .int .i64 i1, .int .i64 i2, .int .i64 i3, .int .i64 i4, .int .i64 i5, .int .i64 i6]) (by simp [results, Tryz.results43, go_sem, hx1]) rfl ⟨rfl, ?_⟩
  repeat (first | with_reducible exact unhide HB | with_reducible exact Below.refl _ _ | with_reducible refine bdrew ?_ | (with_reducible refine brow ?_ ?_; (focus (first | omega | (simp; done) | (simp; omega)))) | (with_reducible refine bset ?_ ?_; (focus (first | omega | (simp; done) | (simp; omega)))) | (with_reducible refine balloc ?_ ?_; (focus (first | omega | (simp; done) | (simp; omega)))) | (with_reducible refine bvia (unhide HB1) ?_ ?_; (focus (first | omega | (simp; done) | (simp; omega)))) | (with_reducible refine bvia (unhide HB2) ?_ ?_; (focus (first | omega | (simp; done) | (simp; omega)))) | (with_reducible refine bvia (unhide HB3) ?_ ?_; (focus (first | omega | (simp; done) | (simp; omega)))) | (with_reducible refine bvia (unhide HB4) ?_ ?_; (focus (first | omega | (simp; done) | (simp; omega)))) | (with_reducible refine bvia (unhide HB5) ?_ ?_; (focus (first | omega | (simp; done) | (simp; omega)))) | (with_reducible refine bvia (unhide HB6) ?_ ?_; (focus (first | omega | (simp; done) | (simp; omega)))))
set_option maxRecDepth 10000 in
theorem slotsPage_any (hF : ∀ j, d.F j < 256) (hrel : DevRel W b t d) (i : Int) :
    Calls Tryz.prog 38 #[.pointer (some ⟨b, 0, none⟩), .int .i64 i] W fun e w' => e = .returned (.string (pageT d.F i)) ∧ W = w' := by
  obtain ⟨x, y, z, hd, hm⟩ := hrel
  have HP : Hid (Calls Tryz.prog 60 #[.pointer (some ⟨b, 0, none⟩), .int .i64 i] W fun e w' => e = .returned (.string (pageT d.F i)) ∧ W = w') := by
    have HD := hide hd
    have HF := hide hF
    clear hd hm
    show Calls _ _ _ _ _
    go_enter Tryz.func60, Tryz.ntmps60
    go_wp2_with fail
    refine (flashPage_any (unhide HD) (unhide HF) i).mono ?_
    rintro e w' ⟨rfl, rfl⟩
    generalize hT : pageT d.F i = T at *
    have HT := hide hT
    clear hT
    go_wp2
    go_ret
    exact ⟨ret_string HT.out.symm, rfl⟩
  clear hd hm hF
  go_enter Tryz.func38, Tryz.ntmps38
  go_wp2_with fail
  refine (unhide HP).mono ?_
  rintro e w' ⟨rfl, rfl⟩
  generalize hT : pageT d.F i = T at *
  have HT := hide hT
  clear hT
  go_wp2
  go_ret
  exact ⟨ret_string HT.out.symm, rfl⟩
set_option maxRecDepth 10000 in
set_option maxHeartbeats 1000000 in
theorem slotsDo_any (hI : M.Inv' d) (hz : M.Tz d.F) (hk : d.key.size ≤ 16) (e : M.Ev) (ht : e.text.size ≤ maxLen) (hrel : DevRel W b t d) :
    Calls Tryz.prog 57 #[.pointer (some ⟨b, 0, none⟩), evV e.kind e.n e.text e.cut e.torn] W fun y w' => Played W b t d e y w' := by
  have hlt := hrel.lt
  have HR := hide hrel
  have HDO := hide (fun (X : World) (hX : DevRel X b t d) => devDo_any hI hz hk e ht hX)
  clear hrel hI hz hk ht
  obtain ⟨k, n, tx, cut, torn⟩ := e
  dsimp only at *
  have rule : ∀ (X : World) (o : Nat), X.heap[W.heap.size]? = some (.cells #[.int .i64 k, .int .i64 n, .string tx, .int .i64 cut, .int .i64 torn] 74 (0, 0)) → X.cell? ⟨W.heap.size, o, none⟩ = (#[.int .i64 k, .int .i64 n, .string tx, .int .i64 cut, .int .i64 torn] : Array Value)[o]? := fun X o h => cell_in h o
  go_enter Tryz.func57, Tryz.ntmps57
  go_wp2_with fail
  go_region_held3 (fun X => X.heap[W.heap.size]? = some (.cells #[.int .i64 k, .int .i64 n, .string tx, .int .i64 cut, .int .i64 torn] 74 (0, 0))) (repeat (first | with_reducible exact hC1 | with_reducible exact drew_block (first_block _ _ _) | (with_reducible refine sblk ?_ ?_; (focus omega)))) ((go_at_call 77; refine (unhide HDO _ (DevRel.kept (unhide HR) ((((Below.refl _ _).alloc (Nat.le_refl _) _).alloc (by simp) _).drew))).mono ?_; rintro y w1 ⟨rfl, hr1, ho1⟩; have hC1 := (ho1.block W.heap.size (by simp; omega) (by omega)).trans (drew_block (first_block _ _ _)); have kR := (ho1.block (W.heap.size + 1) (by simp) (by omega)).trans (drew_block (second_block _ _ _)); have hxR := (block_facts kR).1; have hfR := (block_facts kR).2))
  all_goals
    have HOL : Hid (Only (· = b) W w1) := (Only.of (((Below.refl W.heap.size W).alloc (Nat.le_refl _) _).alloc (by simp) _).drew).trans ho1
    have HR1 := hide hr1
    have nb : ¬ W.heap.size + 1 = b := by omega
    have nb2 : ¬ b = W.heap.size + 1 := by omega
    clear hC1 kR hr1 ho1 rule HDO
    generalize hrp : (M.doM d ⟨k, n, tx, cut, torn⟩).2 = rp at *
    have HRP := hide hrp
    clear hrp
    go_wp2
    refine bodyPost_ret (v := rpV rp) (by simp [results, Tryz.results57, go_sem, hxR]) rfl ⟨by rw [HRP.out], ?_, ?_⟩
    · obtain ⟨x, y, z, hd, hm⟩ := unhide HR1
      refine ⟨x, y, z, ?_, hm⟩
      have KD : Hid (w1.heap[b]? = some (.cells (devCells (M.doM d ⟨k, n, tx, cut, torn⟩).1.key (M.doM d ⟨k, n, tx, cut, torn⟩).1.F (M.doM d ⟨k, n, tx, cut, torn⟩).1.on x y z) t (0, 0))) := hd
      unfold DevAt
      repeat (first | with_reducible exact unhide KD | (with_reducible refine lblk ?_; (focus (first | rfl | (simp; done)))) | with_reducible refine ablk ?_ | with_reducible refine drew_block ?_ | (with_reducible refine sblk ?_ ?_; (focus (first | omega | (simp; done) | (simp; omega)))))
    · repeat (first | with_reducible exact unhide HOL | with_reducible refine ol_drew ?_ | with_reducible refine ol_dev ?_ | (with_reducible refine ol_set ?_ ?_; (focus (first | omega | (simp; done) | (simp; omega)))) | with_reducible refine ol_alloc ?_ | with_reducible refine ol_via (unhide HB6) ?_ | with_reducible refine ol_via (unhide HB7) ?_)
end
end Go.Proofs.YtjfmiomopfjecabGreat

/- A device that is played for a change. -/
namespace Go.Proofs.YtjfmiomopfjecabGreat
open Go.RowKit Go.Lib

abbrev runC (b : Nat) (j : M.Job) (ex inp : ByteArray) (ok : Bool) : Array Value := #[.pointer (some ⟨b, 0, none⟩), .string j.key, .string j.old, .string j.now, .int .i64 j.base, .int .i64 j.up, .string j.patch, .string ex, .string j.man, .string inp, .bool ok]
structure RunRel (W : World) (r b : Nat) (j : M.Job) (ex inp : ByteArray) (d : M.Dev) : Prop where
  run : W.heap[r]? = some (.cells (runC b j ex inp true) 32 (0, 0))
  dev : DevRel W b 108 d
  ne : ¬ r = b
  key : d.key.size ≤ 16
  inv : M.Inv' d
  tz : M.Tz d.F
section
variable {W : World} {r b : Nat} {j : M.Job} {ex inp : ByteArray} {d : M.Dev}
theorem RunRel.kept {W' : World} (h : RunRel W r b j ex inp d) (hb : Below W.heap.size W W') : RunRel W' r b j ex inp d := ⟨kept_block hb h.run, h.dev.kept hb, h.ne, h.key, h.inv, h.tz⟩
theorem RunRel.lt (h : RunRel W r b j ex inp d) : r < W.heap.size ∧ b < W.heap.size := ⟨(Array.getElem?_eq_some_iff.1 h.run).1, h.dev.lt⟩
theorem doM_key (d : M.Dev) (e : M.Ev) : (M.doM d e).1.key = d.key := by unfold M.doM; split <;> rfl
theorem RunRel.does {W' : World} (h : RunRel W r b j ex inp d) {e : M.Ev} {y : Ending} (hp : Played W b 108 d e y W') : RunRel W' r b j ex inp (M.doM d e).1 :=
  ⟨(hp.2.2.block r h.lt.1 h.ne).trans h.run, hp.2.1, h.ne, by rw [doM_key]; exact h.key, M.inv_do h.inv e, M.tz_do h.inv h.tz e⟩
set_option maxRecDepth 10000 in
set_option maxHeartbeats 1000000 in
theorem runDo_any (h : RunRel W r b j ex inp d) (e : M.Ev) (ht : e.text.size ≤ maxLen) :
    Calls Tryz.prog 34 #[.pointer (some ⟨r, 0, none⟩), evV e.kind e.n e.text e.cut e.torn] W fun y w' => Played W b 108 d e y w' := by
  have hlt := h.lt
  have hne := h.ne
  have HR := hide h
  have HDO := hide (fun (X : World) (hX : DevRel X b 108 d) => slotsDo_any h.inv h.tz h.key e ht hX)
  obtain ⟨hxr, hfr⟩ := block_facts h.run
  clear h ht
  obtain ⟨k, n, tx, cut, torn⟩ := e
  dsimp only at *
  have rule1 : ∀ (X : World) (o : Nat), X.heap[W.heap.size]? = some (.cells #[.int .i64 k, .int .i64 n, .string tx, .int .i64 cut, .int .i64 torn] 74 (0, 0)) → X.cell? ⟨W.heap.size, o, none⟩ = (#[.int .i64 k, .int .i64 n, .string tx, .int .i64 cut, .int .i64 torn] : Array Value)[o]? := fun X o h => cell_in h o
  have rule2 : ∀ (X : World) (o : Nat), X.heap[r]? = some (.cells (runC b j ex inp true) 32 (0, 0)) → X.cell? ⟨r, o, none⟩ = (runC b j ex inp true)[o]? := fun X o h => cell_in h o
  have K := hide (unhide HR).run
  have l1 : r < W.heap.size := (by omega); have n1 : ¬ r = W.heap.size := (by omega)
  have n2 : ¬ r = W.heap.size + 1 := by omega
  have l2 : r < W.heap.size + 1 := by omega
  go_enter Tryz.func34, Tryz.ntmps34
  go_wp2_with fail
  go_region_held3 (fun X => X.heap[W.heap.size]? = some (.cells #[.int .i64 k, .int .i64 n, .string tx, .int .i64 cut, .int .i64 torn] 74 (0, 0)) ∧ X.heap[r]? = some (.cells (runC b j ex inp true) 32 (0, 0))) (refine ⟨?_, ?_⟩ <;> (repeat (first | with_reducible exact hC1 | with_reducible exact hC2 | with_reducible exact unhide K | with_reducible exact drew_block (first_block _ _ _) | with_reducible refine ablk ?_ | with_reducible refine drew_block ?_ | (with_reducible refine sblk ?_ ?_; (focus omega))))) ((go_at_call 57; refine (unhide HDO _ (DevRel.kept (unhide HR).dev ((((Below.refl _ _).alloc (Nat.le_refl _) _).alloc (by simp) _).drew))).mono ?_; rintro y w1 ⟨rfl, hr1, ho1⟩; have hC1 := (ho1.block W.heap.size (by simp; omega) (by omega)).trans (drew_block (first_block _ _ _)); have hC2 := (ho1.block r (by simp; omega) (by omega)).trans (drew_block (alloc_block (alloc_block (unhide K) _) _)); have kR := (ho1.block (W.heap.size + 1) (by simp) (by omega)).trans (drew_block (second_block _ _ _)); have hxR := (block_facts kR).1; have hfR := (block_facts kR).2))
  all_goals
    have HOL : Hid (Only (· = b) W w1) := (Only.of (((Below.refl W.heap.size W).alloc (Nat.le_refl _) _).alloc (by simp) _).drew).trans ho1
    have HR1 := hide hr1
    have nb : ¬ W.heap.size + 1 = b := by omega
    have nb2 : ¬ b = W.heap.size + 1 := by omega
    clear hC1 hC2 kR hr1 ho1 rule1 rule2 HDO hxr hfr
    generalize hrp : (M.doM d ⟨k, n, tx, cut, torn⟩).2 = rp at *
    have HRP := hide hrp
    clear hrp
    go_wp2
    refine bodyPost_ret (v := rpV rp) (by simp [results, Tryz.results34, go_sem, hxR]) rfl ⟨by rw [HRP.out], ?_, ?_⟩
    · obtain ⟨x, y, z, hd, hm⟩ := unhide HR1
      refine ⟨x, y, z, ?_, hm⟩
      have KD : Hid (w1.heap[b]? = some (.cells (devCells (M.doM d ⟨k, n, tx, cut, torn⟩).1.key (M.doM d ⟨k, n, tx, cut, torn⟩).1.F (M.doM d ⟨k, n, tx, cut, torn⟩).1.on x y z) 108 (0, 0))) := hd
      unfold DevAt
      repeat (first | with_reducible exact unhide KD | (with_reducible refine lblk ?_; (focus (first | rfl | (simp; done)))) | with_reducible refine ablk ?_ | with_reducible refine drew_block ?_ | (with_reducible refine sblk ?_ ?_; (focus (first | omega | (simp; done) | (simp; omega)))))
    · repeat (first | with_reducible exact unhide HOL | with_reducible refine ol_drew ?_ | with_reducible refine ol_dev ?_ | (with_reducible refine ol_set ?_ ?_; (focus (first | omega | (simp; done) | (simp; omega)))) | with_reducible refine ol_alloc ?_ | with_reducible refine ol_via (unhide HB6) ?_ | with_reducible refine ol_via (unhide HB7) ?_)
theorem must_true (W : World) (r : Nat) : Calls Tryz.prog 22 #[.pointer (some ⟨r, 0, none⟩), .bool true] W fun e w' => e = .returned (.tuple #[]) ∧ W = w' := by
  go_enter Tryz.func22, Tryz.ntmps22
  go_wp2
  refine bodyPost_end (v := .tuple #[]) (by simp [results, Tryz.results22, go_sem]) rfl ⟨rfl, rfl⟩
set_option maxRecDepth 10000 in
theorem runStatus_any (h : RunRel W r b j ex inp d) :
    Calls Tryz.prog 28 #[.pointer (some ⟨r, 0, none⟩)] W fun e w' => e = .returned (statOf d) ∧ Below W.heap.size W w' := by
  have hlt := h.lt
  have HR := hide h
  have HS := hide (fun (X : World) (hX : DevRel X b 108 d) => slotsStatus_any h.inv hX)
  obtain ⟨hxr, hfr⟩ := block_facts h.run
  obtain ⟨sb, i1, i2, i3, i4, i5, i6, e⟩ := statOf_shape d
  rw [e] at HS ⊢
  clear h e
  have l1 : r < W.heap.size := (by omega); have n1 : ¬ r = W.heap.size := (by omega)
  go_enter Tryz.func28, Tryz.ntmps28
  go_wp2_with fail
  refine (unhide HS _ (DevRel.kept (unhide HR).dev ((Below.refl _ _).alloc (Nat.le_refl _) _))).mono ?_
  rintro e w1 ⟨rfl, hb1⟩
  obtain ⟨k1, hs1, hb⟩ := blk1 hb1
  obtain ⟨hx1, hf1⟩ := block_facts k1
  have HB := hide hb
  clear hb hb1 k1 hxr hfr
  have l2 : W.heap.size < w1.heap.size := (by omega); have n2 : ¬ W.heap.size = w1.heap.size := (by omega)
  go_wp2
  refine bodyPost_ret (v := .agg #[.bool sb, .int .i64 i1, .int .i64 i2, .int .i64 i3, .int .i64 i4, .int .i64 i5, .int .i64 i6]) (by simp [results, Tryz.results28, go_sem, hx1]) rfl ⟨rfl, ?_⟩
  repeat (first | with_reducible exact unhide HB | with_reducible exact Below.refl _ _ | with_reducible refine bdrew ?_ | (with_reducible refine brow ?_ ?_; (focus (first | omega | (simp; done) | (simp; omega)))) | (with_reducible refine bset ?_ ?_; (focus (first | omega | (simp; done) | (simp; omega)))) | (with_reducible refine balloc ?_ ?_; (focus (first | omega | (simp; done) | (simp; omega)))) | (with_reducible refine bvia (unhide HB1) ?_ ?_; (focus (first | omega | (simp; done) | (simp; omega)))) | (with_reducible refine bvia (unhide HB2) ?_ ?_; (focus (first | omega | (simp; done) | (simp; omega)))) | (with_reducible refine bvia (unhide HB3) ?_ ?_; (focus (first | omega | (simp; done) | (simp; omega)))) | (with_reducible refine bvia (unhide HB4) ?_ ?_; (focus (first | omega | (simp; done) | (simp; omega)))) | (with_reducible refine bvia (unhide HB5) ?_ ?_; (focus (first | omega | (simp; done) | (simp; omega)))) | (with_reducible refine bvia (unhide HB6) ?_ ?_; (focus (first | omega | (simp; done) | (simp; omega)))))
/-- the run goes on: the device is another one now, all else that was there is as it was -/
def Goes (W : World) (r b : Nat) (j : M.Job) (ex inp : ByteArray) (d' : M.Dev) (e : Ending) (w' : World) : Prop := e = .returned (.tuple #[]) ∧ RunRel w' r b j ex inp d' ∧ Only (· = b) W w'
set_option maxRecDepth 10000 in
set_option maxHeartbeats 1000000 in
theorem runGoes_any (h : RunRel W r b j ex inp d) (k n : Int) (tx : ByteArray) (ver : Nat) (ht : tx.size ≤ maxLen) (hrp : (M.doM d ⟨k, n, tx, -1, 0⟩).2 = ⟨0, ver, ⟨#[]⟩, -1⟩) :
    Calls Tryz.prog 13 #[.pointer (some ⟨r, 0, none⟩), .int .i64 k, .int .i64 n, .string tx, .int .i64 ver] W fun e w' => Goes W r b j ex inp (M.doM d ⟨k, n, tx, -1, 0⟩).1 e w' := by
  have HR := hide h
  have HDO := hide (runDo_any h ⟨k, n, tx, -1, 0⟩ ht)
  have HRP := hide hrp
  clear h hrp ht
  go_enter Tryz.func13, Tryz.ntmps13
  go_wp2_with fail
  refine (unhide HDO).mono ?_
  intro y w1 hpl
  have hrel := (unhide HR).does hpl
  obtain ⟨hy, hr1, ho1⟩ := hpl
  rw [HRP.out] at hy
  subst hy
  have HRL := hide hrel
  have HOL1 := hide ho1
  clear hrel hr1 ho1 HDO
  go_wp2_with fail
  refine (must_true _ _).mono ?_
  rintro e w' ⟨rfl, rfl⟩
  go_wp2
  refine bodyPost_end (v := .tuple #[]) (by simp [results, Tryz.results13, go_sem]) rfl ⟨rfl, (unhide HRL).kept ((Below.refl _ _).alloc (Nat.le_refl _) _), ?_⟩
  have HOL := HOL1
  repeat (first | with_reducible exact unhide HOL | with_reducible refine ol_drew ?_ | with_reducible refine ol_dev ?_ | (with_reducible refine ol_set ?_ ?_; (focus (first | omega | (simp; done) | (simp; omega)))) | with_reducible refine ol_alloc ?_ | with_reducible refine ol_via (unhide HB6) ?_ | with_reducible refine ol_via (unhide HB7) ?_)
set_option maxRecDepth 10000 in
theorem runPhase_any (h : RunRel W r b j ex inp d) (ph kv tr : Nat) (a2 a3 a6 : Int) (hst : statOf d = .agg #[.bool true, .int .i64 ph, .int .i64 a2, .int .i64 a3, .int .i64 kv, .int .i64 tr, .int .i64 a6]) :
    Calls Tryz.prog 16 #[.pointer (some ⟨r, 0, none⟩), .int .i64 ph, .int .i64 kv, .int .i64 tr] W fun e w' => e = .returned (.tuple #[]) ∧ Below W.heap.size W w' := by
  have HS := hide (runStatus_any h)
  rw [hst] at HS
  clear h hst
  go_enter Tryz.func16, Tryz.ntmps16
  go_wp2_with fail
  refine (unhide HS).mono ?_
  rintro e w1 ⟨rfl, hb1⟩
  have HB := hide hb1
  have hs1 := hb1.size
  clear hb1 HS
  go_wp2_with fail
  refine (must_true _ _).mono ?_
  rintro e w' ⟨rfl, rfl⟩
  go_wp2
  refine bodyPost_end (v := .tuple #[]) (by simp [results, Tryz.results16, go_sem]) rfl ⟨rfl, ?_⟩
  repeat (first | with_reducible exact unhide HB | with_reducible exact Below.refl _ _ | with_reducible refine bdrew ?_ | (with_reducible refine brow ?_ ?_; (focus (first | omega | (simp; done) | (simp; omega)))) | (with_reducible refine bset ?_ ?_; (focus (first | omega | (simp; done) | (simp; omega)))) | (with_reducible refine balloc ?_ ?_; (focus (first | omega | (simp; done) | (simp; omega)))) | (with_reducible refine bvia (unhide HB1) ?_ ?_; (focus (first | omega | (simp; done) | (simp; omega)))) | (with_reducible refine bvia (unhide HB2) ?_ ?_; (focus (first | omega | (simp; done) | (simp; omega)))) | (with_reducible refine bvia (unhide HB3) ?_ ?_; (focus (first | omega | (simp; done) | (simp; omega)))) | (with_reducible refine bvia (unhide HB4) ?_ ?_; (focus (first | omega | (simp; done) | (simp; omega)))) | (with_reducible refine bvia (unhide HB5) ?_ ?_; (focus (first | omega | (simp; done) | (simp; omega)))) | (with_reducible refine bvia (unhide HB6) ?_ ?_; (focus (first | omega | (simp; done) | (simp; omega)))))
set_option maxRecDepth 10000 in
set_option maxHeartbeats 1000000 in
theorem runAgain_any (h : RunRel W r b j ex inp d) (ver : Nat) (h1 : (M.doM d ⟨1, 0, ⟨#[]⟩, -1, 0⟩).2 = ⟨0, 0, ⟨#[]⟩, -1⟩) (hoff : (M.doM d ⟨1, 0, ⟨#[]⟩, -1, 0⟩).1.on = false)
    (h2 : (M.doM (M.doM d ⟨1, 0, ⟨#[]⟩, -1, 0⟩).1 ⟨2, 0, ⟨#[]⟩, -1, 0⟩).2 = ⟨0, ver, ⟨#[]⟩, -1⟩) :
    Calls Tryz.prog 14 #[.pointer (some ⟨r, 0, none⟩), .int .i64 ver] W fun e w' => Goes W r b j ex inp (M.doM (M.doM d ⟨1, 0, ⟨#[]⟩, -1, 0⟩).1 ⟨2, 0, ⟨#[]⟩, -1, 0⟩).1 e w' := by
  have HG := hide (runGoes_any h 1 0 ⟨#[]⟩ 0 (by show 0 ≤ _; unfold maxLen; omega) h1)
  have HST : Hid (statOf (M.doM d ⟨1, 0, ⟨#[]⟩, -1, 0⟩).1 = statNo) := by show _ = _; unfold statOf; rw [hoff]; rfl
  have H2 := hide h2
  clear h h1 hoff h2
  generalize M.doM d ⟨1, 0, ⟨#[]⟩, -1, 0⟩ = dd at *
  go_enter Tryz.func14, Tryz.ntmps14
  go_wp2_with fail
  refine (unhide HG).mono ?_
  rintro e w1 ⟨rfl, hr1, ho1⟩
  have HR1 := hide hr1
  have HOL1 := hide ho1
  clear hr1 ho1 HG
  go_wp2_with fail
  refine (runStatus_any (unhide HR1)).mono ?_
  rintro e w2 ⟨rfl, hb2⟩
  rw [HST.out]
  have HR2 := hide ((unhide HR1).kept hb2)
  have HB6 := hide hb2
  clear hb2
  go_wp2_with fail
  refine (must_true _ _).mono ?_
  rintro e w' ⟨rfl, rfl⟩
  go_wp2_with fail
  refine (runGoes_any ((unhide HR2).kept ((Below.refl _ _).alloc (Nat.le_refl _) _)) 2 0 ⟨#[]⟩ ver (by show 0 ≤ _; unfold maxLen; omega) (unhide H2)).mono ?_
  rintro e w3 ⟨rfl, hr3, ho3⟩
  have HR3 := hide hr3
  have HOL : Hid (Only (· = b) W w3) := by
    refine Only.trans ?_ ho3
    have HOL := HOL1
    repeat (first | with_reducible exact unhide HOL | with_reducible refine ol_drew ?_ | with_reducible refine ol_dev ?_ | (with_reducible refine ol_set ?_ ?_; (focus (first | omega | (simp; done) | (simp; omega)))) | with_reducible refine ol_alloc ?_ | with_reducible refine ol_via (unhide HB6) ?_ | with_reducible refine ol_via (unhide HB7) ?_)
  clear hr3 ho3
  go_wp2
  exact bodyPost_end (v := .tuple #[]) (by simp [results, Tryz.results14, go_sem]) rfl ⟨rfl, unhide HR3, unhide HOL⟩
end
end Go.Proofs.YtjfmiomopfjecabGreat

/- slotskeep's nodes and images. -/
namespace Go.Proofs.YtjfmiomopfjecabGreat
open Go.RowKit

theorem kOne_cum {w0 : World} (v : Int) (W : World) (h0 : 0 ≤ v) (h1 : v ≤ 255) (hW : Below w0.heap.size w0 W) :
    Calls Tryz.prog 40 #[.int .i64 v] W fun e w' => e = .returned (.string (M.bytesOf [v.toNat])) ∧ Below w0.heap.size w0 w' := by
  obtain ⟨n, rfl⟩ := Int.eq_ofNat_of_zero_le h0
  rw [Int.toNat_natCast]
  exact (kOne_any n W (by omega)).mono fun e w' ⟨a, b⟩ => ⟨a, hW.trans (b.mono hW.size)⟩

theorem three (a b c : Nat) : M.bytesOf [a] ++ M.bytesOf [b] ++ M.bytesOf [c] = M.bytesOf [a, b, c] := by
  rw [M.bytesOf_append, M.bytesOf_append]; rfl
theorem one_size (a : Nat) : (M.bytesOf [a]).size = 1 := by rw [M.bytesOf_size]; rfl
theorem nodeL0 {op a b v : Nat} (h : op % 8 = 0) : M.nodeL op a b v = [0, a, b] := if_pos h
theorem nodeL6 {op a b v : Nat} (h : op % 8 = 6) : M.nodeL op a b v = [6, a % v, b % 16] := by unfold M.nodeL; rw [if_neg (by omega), if_pos h]
theorem nodeL7 {op a b v : Nat} (h : op % 8 = 7) : M.nodeL op a b v = [7, a % v, 0] := by unfold M.nodeL; rw [if_neg (by omega), if_neg (by omega), if_pos h]
theorem nodeLx {op a b v : Nat} (h0 : op % 8 ≠ 0) (h6 : op % 8 ≠ 6) (h7 : op % 8 ≠ 7) : M.nodeL op a b v = [op % 8, a % v, b % v] := by unfold M.nodeL; rw [if_neg h0, if_neg h6, if_neg h7]

theorem emod_nat (a b : Nat) : ((a : Int) % (b : Int)).toNat = a % b := by rw [← Int.natCast_emod, Int.toNat_natCast]
theorem emod_bd (a v : Nat) (ha : a < 256) : 0 ≤ (a : Int) % (v : Int) ∧ (a : Int) % (v : Int) ≤ 255 := by
  rw [← Int.natCast_emod]
  have : a % v ≤ a := Nat.mod_le _ _
  omega
set_option maxHeartbeats 1600000 in
theorem kNode_any (t : ByteArray) (v : Nat) (w : World) (ht : t.size = 3) (hv1 : 1 ≤ v) (hv2 : v ≤ 1000) :
    Calls Tryz.prog 67 #[.string t, .int .i64 v] w fun e w' => e = .returned (.string (M.bytesOf (M.nodeL (M.bz t 0) (M.bz t 1) (M.bz t 2) v))) ∧ Below w.heap.size w w' := by
  have p0 : 0 < t.size := by omega
  have p1 : 1 < t.size := by omega
  have p2 : 2 < t.size := by omega
  rw [← M.bz_at t 0 p0, ← M.bz_at t 1 p1, ← M.bz_at t 2 p2]
  have q0 : (t[0]'p0).toNat < 256 := UInt8.toNat_lt _
  have q1 : (t[1]'p1).toNat < 256 := UInt8.toNat_lt _
  have q2 : (t[2]'p2).toNat < 256 := UInt8.toNat_lt _
  have ht3 : t.size ≤ 3 := by omega
  clear ht
  by_cases h0 : (t[0]'p0).toNat % 8 = 0
  · have HE := hide (nodeL0 (a := (t[1]'p1).toNat) (b := (t[2]'p2).toNat) (v := v) h0)
    have h0' : (((t[0]'p0).toNat : Int) % 8 == 0) = true := beq_iff_eq.2 (by omega)
    have HO : Hid (((t[0]'p0).toNat : Int) % 8 = 0) := by show _ = _; omega
    clear h0
    have hos := one_size
    go_enter Tryz.func67, Tryz.ntmps67
    go_wp2_with fail
    refine (kOne_cum _ _ (by omega) (by omega) (Below.refl _ _)).mono ?_
    rintro e w1 ⟨rfl, hb1⟩
    go_wp2_with fail
    refine (kOne_cum _ _ (by omega) (by omega) hb1).mono ?_
    rintro e w2 ⟨rfl, hb2⟩
    go_wp2_with fail
    refine (kOne_cum _ _ (by omega) (by omega) hb2).mono ?_
    rintro e w3 ⟨rfl, hb3⟩
    go_wp2
    go_ret
    exact ⟨ret_string (by rw [HE.out, three]; congr 2; have := HO.out; omega), hb3⟩
  · have h0' : (((t[0]'p0).toNat : Int) % 8 == 0) = false := beq_eq_false_iff_ne.2 (by omega)
    have hos := one_size
    have hv0 : ((v : Int) == 0) = false := beq_eq_false_iff_ne.2 (by omega)
    have hx0 : 0 ≤ ((t[0]'p0).toNat : Int) % 8 ∧ ((t[0]'p0).toNat : Int) % 8 ≤ 255 := by omega
    have hx1 := emod_bd (t[1]'p1).toNat v q1
    have hx2 := emod_bd (t[2]'p2).toNat v q2
    have hvz : ¬ (v : Int) = 0 := by omega
    have hvn : ¬ v = 0 := by omega
    have hm1 : ((t[1]'p1).toNat : Int).tmod (v : Int) = ((t[1]'p1).toNat : Int) % (v : Int) := Int.tmod_eq_emod_of_nonneg (by omega)
    have hm2 : ((t[2]'p2).toNat : Int).tmod (v : Int) = ((t[2]'p2).toNat : Int) % (v : Int) := Int.tmod_eq_emod_of_nonneg (by omega)
    have hm3 : ((t[2]'p2).toNat : Int).tmod 16 = ((t[2]'p2).toNat : Int) % 16 := Int.tmod_eq_emod_of_nonneg (by omega)
    have HM1 := hide (emod_nat (t[1]'p1).toNat v)
    have HM2 := hide (emod_nat (t[2]'p2).toNat v)
    have HM3 := hide (emod_nat (t[2]'p2).toNat 16)
    have HM0 := hide (emod_nat (t[0]'p0).toNat 8)
    by_cases h6 : (t[0]'p0).toNat % 8 = 6
    · have HE := hide (nodeL6 (a := (t[1]'p1).toNat) (b := (t[2]'p2).toNat) (v := v) h6)
      have h6' : (((t[0]'p0).toNat : Int) % 8 == 6) = true := beq_iff_eq.2 (by omega)
      have H6 := hide h6
      clear h6 h0
      go_enter Tryz.func67, Tryz.ntmps67
      go_wp2_with fail
      go_region_held3 (fun _ => True) (first | trivial | (intros; trivial)) ((go_at_call 40; refine (kOne_cum _ _ (by omega) (by omega) (by first | exact hbN | exact (Below.refl _ _).drew)).mono ?_; rintro e w1 ⟨rfl, hbN⟩))
      go_wp2
      go_ret
      exact ⟨ret_string (by rw [HE.out, three]; rw [← H6.out, ← HM0.out, ← HM1.out, ← HM3.out]; rfl), hbN⟩
    · have h6' : (((t[0]'p0).toNat : Int) % 8 == 6) = false := beq_eq_false_iff_ne.2 (by omega)
      by_cases h7 : (t[0]'p0).toNat % 8 = 7
      · have HE := hide (nodeL7 (a := (t[1]'p1).toNat) (b := (t[2]'p2).toNat) (v := v) h7)
        have h7' : (((t[0]'p0).toNat : Int) % 8 == 7) = true := beq_iff_eq.2 (by omega)
        have H7 := hide h7
        clear h7 h6 h0
        go_enter Tryz.func67, Tryz.ntmps67
        go_wp2_with fail
        go_region_held3 (fun _ => True) (first | trivial | (intros; trivial)) ((go_at_call 40; refine (kOne_cum _ _ (by omega) (by omega) (by first | exact hbN | exact (Below.refl _ _).drew)).mono ?_; rintro e w1 ⟨rfl, hbN⟩))
        go_wp2
        go_ret
        exact ⟨ret_string (by rw [HE.out, three]; rw [← H7.out, ← HM0.out, ← HM1.out]; rfl), hbN⟩
      · have HE := hide (nodeLx (a := (t[1]'p1).toNat) (b := (t[2]'p2).toNat) (v := v) h0 h6 h7)
        have h7' : (((t[0]'p0).toNat : Int) % 8 == 7) = false := beq_eq_false_iff_ne.2 (by omega)
        clear h7 h6 h0
        go_enter Tryz.func67, Tryz.ntmps67
        go_wp2_with fail
        go_region_held3 (fun _ => True) (first | trivial | (intros; trivial)) ((go_at_call 40; refine (kOne_cum _ _ (by omega) (by omega) (by first | exact hbN | exact (Below.refl _ _).drew)).mono ?_; rintro e w1 ⟨rfl, hbN⟩))
        go_wp2
        go_ret
        exact ⟨ret_string (by rw [HE.out, three]; rw [← HM0.out, ← HM1.out, ← HM2.out]; rfl), hbN⟩
end Go.Proofs.YtjfmiomopfjecabGreat

/- slotskeep's Net.image. -/
namespace Go.Proofs.YtjfmiomopfjecabGreat
open Go.RowKit

theorem kOne_at {B : Nat} {w0 : World} (v : Nat) (W : World) (h1 : v ≤ 255) (hW : Below B w0 W) (hB : B ≤ W.heap.size) :
    Calls Tryz.prog 40 #[.int .i64 v] W fun e w' => e = .returned (.string (M.bytesOf [v])) ∧ Below B w0 w' ∧ B ≤ w'.heap.size :=
  (kOne_any v W h1).mono fun _ _ ⟨a, b⟩ => ⟨a, hW.trans (b.mono hB), Nat.le_trans hB b.size⟩
theorem below_in {w w1 : World} {o : Obj} (h : Below (w.heap.size + 1) (w.alloc o) w1) : Below w.heap.size w w1 :=
  ((Below.refl _ _).alloc (Nat.le_refl _) o).trans (h.mono (by omega))
def inN (i : Int) : Nat := 1 + M.pk i 4
theorem inN_bd (i : Int) : 1 ≤ inN i ∧ inN i ≤ 4 := by
  have := M.pk_lt i 4 (by omega)
  unfold inN
  omega
def outsL (n m : Nat) (s : ByteArray) (k : Nat) : List Nat := (List.range k).map fun j => M.bz s j % (n + m)
theorem outsL_length (n m : Nat) (s : ByteArray) (k : Nat) : (outsL n m s k).length = k := by simp [outsL]
theorem outsL_succ (n m : Nat) (s : ByteArray) (k : Nat) : outsL n m s (k + 1) = outsL n m s k ++ [M.bz s k % (n + m)] := by
  unfold outsL; rw [List.range_succ, List.map_append]; rfl
theorem outsL_all (n m : Nat) (s : ByteArray) (k : Nat) : M.AllB (outsL n m s k) := by
  intro x hx
  simp only [outsL, List.mem_map] at hx
  obtain ⟨i, _, rfl⟩ := hx
  have := M.bz_lt s i
  have : M.bz s i % (n + m) ≤ M.bz s i := Nat.mod_le _ _
  omega
theorem outsL_getD (n m : Nat) (s : ByteArray) (k j : Nat) (h : j < k) : (outsL n m s k).getD j 0 = M.bz s j % (n + m) := by simp [outsL, h]
/-- how many nodes a text gives -/
def nodesN (t : ByteArray) : Nat := (fstT t 72).size / 3
theorem nodesN_le (t : ByteArray) : nodesN t ≤ 24 := by
  have := fstT_size t 72
  unfold nodesN
  omega
def imageL (i o : Int) (t s : ByteArray) : List Nat := M.imgL (inN i) (nodesN t) (inN o) (M.nodesL (fstT t 72) (inN i) (nodesN t)) (outsL (inN i) (nodesN t) s (inN o))

theorem four (a b c d : Nat) : M.bytesOf [a] ++ M.bytesOf [b] ++ M.bytesOf [c] ++ M.bytesOf [d] = M.bytesOf [a, b, c, d] := by
  rw [M.bytesOf_append, M.bytesOf_append, M.bytesOf_append]; rfl
theorem em_bytes : (⟨#[77]⟩ : ByteArray) = M.bytesOf [77] := rfl
theorem cut3 (t : ByteArray) (k : Nat) (h : 3 * k + 3 ≤ t.size) : (t.extract (3 * k) (3 * k + 3)).size = 3 ∧ M.bz (t.extract (3 * k) (3 * k + 3)) 0 = M.bz t (3 * k) ∧ M.bz (t.extract (3 * k) (3 * k + 3)) 1 = M.bz t (3 * k + 1) ∧ M.bz (t.extract (3 * k) (3 * k + 3)) 2 = M.bz t (3 * k + 2) := by
  have e : t.extract (3 * k) (3 * k + 3) = M.bytesOf [M.bz t (3 * k), M.bz t (3 * k + 1), M.bz t (3 * k + 2)] := by
    conv => lhs; rw [M.bytesOf_bz t, M.bytesOf_extract]
    congr 1
    have h0 : 3 * k < t.size := by omega
    have h1 : 3 * k + 1 < t.size := by omega
    have h2 : 3 * k + 2 < t.size := by omega
    apply List.ext_getElem?
    intro i
    rw [show 3 * k + 3 - 3 * k = 3 from by omega, List.getElem?_take, List.getElem?_drop]
    match i with
    | 0 => simp [h0]
    | 1 => simp [h1]
    | 2 => simp [h2]
    | i + 3 => rw [if_neg (by omega)]; simp
  have ha : M.AllB [M.bz t (3 * k), M.bz t (3 * k + 1), M.bz t (3 * k + 2)] := by
    intro x hx
    have := M.bz_lt t (3 * k)
    have := M.bz_lt t (3 * k + 1)
    have := M.bz_lt t (3 * k + 2)
    simp at hx
    omega
  rw [e, M.bytesOf_size, M.bz_bytesOf ha, M.bz_bytesOf ha, M.bz_bytesOf ha]
  exact ⟨rfl, rfl, rfl, rfl⟩

set_option maxHeartbeats 1600000 in
theorem kImage_any (i0 o : Int) (t s : ByteArray) (w : World) (hi0 : -9223372036854775808 ≤ i0) (hi1 : i0 ≤ 9223372036854775807) (ho0 : -9223372036854775808 ≤ o) (ho1 : o ≤ 9223372036854775807) (ht : t.size ≤ maxLen) (hs : s.size ≤ maxLen) :
    Calls Tryz.prog 53 #[.agg #[.int .i64 i0, .int .i64 o, .string t, .string s]] w fun e w' => e = .returned (.string (M.bytesOf (imageL i0 o t s))) ∧ Below w.heap.size w w' := by
  have bi := inN_bd i0
  have bo := inN_bd o
  have bm := nodesN_le t
  have HFIN : Hid (imageL i0 o t s = M.imgL (inN i0) (nodesN t) (inN o) (M.nodesL (fstT t 72) (inN i0) (nodesN t)) (outsL (inN i0) (nodesN t) s (inN o))) := rfl
  have HIN : Hid ((1 : Int) + (M.pk i0 4 : Int) = (inN i0 : Int)) := by show _ = _; unfold inN; omega
  have HON : Hid ((1 : Int) + (M.pk o 4 : Int) = (inN o : Int)) := by show _ = _; unfold inN; omega
  have HMN : Hid (((fstT t 72).size : Int) / 3 = (nodesN t : Int)) := by show _ = _; unfold nodesN; omega
  have hm3 : 3 * nodesN t ≤ (fstT t 72).size := by unfold nodesN; omega
  have hu : (fstT t 72).size ≤ 72 := by have := fstT_size t 72; omega
  have hp := M.pk_lt i0 4 (by omega)
  have hq := M.pk_lt o 4 (by omega)
  have hos := one_size
  go_enter Tryz.func53, Tryz.ntmps53
  go_wp2_with fail
  refine (kPick_any i0 4 _ hi0 hi1 (by omega) (by omega)).mono ?_
  rintro e w' ⟨rfl, rfl⟩
  go_wp2_with fail
  refine (kPick_any o 4 _ ho0 ho1 (by omega) (by omega)).mono ?_
  rintro e w' ⟨rfl, rfl⟩
  rw [HIN.out]
  go_wp2_with fail
  refine (kFirst_any t 72 _ ht (by omega)).mono ?_
  rintro e w' ⟨rfl, rfl⟩
  rw [HON.out]
  generalize fstT t 72 = u at *
  generalize inN i0 = n at *
  generalize inN o = c at *
  generalize nodesN t = m at *
  go_wp2_with fail
  refine (kOne_at n _ (by omega) (Below.refl (w.heap.size + 1) _) (by simp)).mono ?_
  rintro e w1 ⟨rfl, hb1, hz1⟩
  rw [HMN.out]
  go_wp2_with fail
  refine (kOne_at m _ (by omega) hb1 hz1).mono ?_
  rintro e w2 ⟨rfl, hb2, hz2⟩
  clear hb1
  go_wp2_with fail
  refine (kOne_at c _ (by omega) hb2 hz2).mono ?_
  rintro e w3 ⟨rfl, hb3, hz3⟩
  clear hb2
  have H0 : Hid (({ data := #[77] } : ByteArray) ++ M.bytesOf [n] ++ M.bytesOf [m] ++ M.bytesOf [c] = M.bytesOf ([77, n, m, c] ++ M.nodesL u n 0)) := by
    rw [em_bytes, four]; rfl
  have HB3 := hide hb3
  clear hb3
  go_wp2_with fail
  go_loopw [7, 8] (fun v i wr => ∃ (k : Nat) (x : ByteArray), k ≤ m ∧ i = .int .i64 k ∧ v = .string x ∧ Hid (x = M.bytesOf ([77, n, m, c] ++ M.nodesL u n k)) ∧ x.size ≤ 4 + 3 * k ∧ Below (w.heap.size + 1) (w.alloc (.cells #[.int .i64 i0, .int .i64 o, .string t, .string s] 23)) wr ∧ w.heap.size + 1 ≤ wr.heap.size) (fun _ i _ => m - (intOf i).toNat)
  case atStart => exact ⟨0, _, by omega, rfl, rfl, H0, by rw [H0.out, M.bytesOf_size]; exact Nat.le_refl _, unhide HB3, hz3⟩
  case round =>
    clear H0 HB3 hz1 hz2 hz3
    obtain ⟨k, x, hk, rfl, rfl, hx, hxs, hbel, hsz⟩ := hrel
    have hc3 : (w.alloc (.cells #[.int .i64 i0, .int .i64 o, .string t, .string s] 23)).cell? ⟨w.heap.size, 3, none⟩ = some (.string s) := by simp
    have hb3 : wr.cell? ⟨w.heap.size, 3, none⟩ = some (.string s) := (hbel.cell (p := ⟨w.heap.size, 3, none⟩) (by simp)).trans hc3
    clear hc3
    have HB := hide hbel
    clear hbel
    by_cases hlt : k < m
    · have hcut := cut3 u k (by omega)
      have HS : Hid (M.nodesL u n (k + 1) = M.nodesL u n k ++ M.nodeL (M.bz u (3 * k)) (M.bz u (3 * k + 1)) (M.bz u (3 * k + 2)) (n + k)) := rfl
      have HC := hide hcut
      clear hcut hb3
      go_wp2_with fail
      generalize u.extract (3 * k) (3 * k + 3) = cut at *
      rw [show ((n : Int) + (k : Int)) = ((n + k : Nat) : Int) from by omega]
      refine (kNode_any cut (n + k) _ HC.out.1 (by omega) (by omega)).mono ?_
      rintro e w4 ⟨rfl, hb4⟩
      have HL := hide (M.nodeL_length (M.bz u (3 * k)) (M.bz u (3 * k + 1)) (M.bz u (3 * k + 2)) (n + k))
      rw [HC.out.2.1, HC.out.2.2.1, HC.out.2.2.2]
      have HX : Hid (x ++ M.bytesOf (M.nodeL (M.bz u (3 * k)) (M.bz u (3 * k + 1)) (M.bz u (3 * k + 2)) (n + k)) = M.bytesOf ([77, n, m, c] ++ M.nodesL u n (k + 1))) := by
        rw [HS.out, hx.out, M.bytesOf_append, List.append_assoc]; rfl
      have hrs : (M.bytesOf (M.nodeL (M.bz u (3 * k)) (M.bz u (3 * k + 1)) (M.bz u (3 * k + 2)) (n + k))).size ≤ 3 := by rw [M.bytesOf_size, HL.out]; omega
      have HZ : Hid ((M.bytesOf ([77, n, m, c] ++ M.nodesL u n (k + 1))).size ≤ 4 + 3 * (k + 1)) := by
        rw [M.bytesOf_size, List.length_append, M.nodesL_length]; show 4 + _ ≤ _; omega
      have HB4 := hide ((unhide HB).trans (hb4.mono hsz))
      have hsz4 := Nat.le_trans hsz hb4.size
      clear hb4 HC HL HS
      generalize M.bytesOf (M.nodeL (M.bz u (3 * k)) (M.bz u (3 * k + 1)) (M.bz u (3 * k + 2)) (n + k)) = r at *
      go_wp2
      go_roundw
      case rel => exact ⟨k + 1, x ++ r, by omega, by go_num, rfl, HX, by rw [HX.out]; exact HZ.out, unhide HB4, hsz4⟩
      case measure => simp [intOf]; omega
    · have hkm : k = m := by omega
      subst hkm
      clear hlt
      go_wp2_with fail
      refine (kFill_any s c _ hs (by omega)).mono ?_
      rintro e w5 ⟨rfl, rfl⟩
      have HFa : Hid (∀ j, j < c → M.bz (M.bytesOf (M.fillL s c)) j = M.bz s j) := fun j hj => by rw [M.bz_bytesOf (M.fillL_all _ _), M.fillL_getD _ _ _ hj]
      have hfs : (M.bytesOf (M.fillL s c)).size = c := by rw [M.bytesOf_size, M.fillL_length]
      generalize M.bytesOf (M.fillL s c) = f at *
      have hf1 : c ≤ f.size := by omega
      have hf2 : f.size ≤ c := by omega
      clear hfs hb3
      have H1 : Hid (x = M.bytesOf (([77, n, k, c] ++ M.nodesL u n k) ++ outsL n k s 0)) := by rw [hx.out]; show _ = M.bytesOf (_ ++ []); rw [List.append_nil]
      have hx100 : x.size ≤ 76 + 0 := by omega
      go_wp2_with fail
      go_loopw [7, 10] (fun v i wr => ∃ (j : Nat) (x : ByteArray), j ≤ c ∧ i = .int .i64 j ∧ v = .string x ∧ Hid (x = M.bytesOf (([77, n, k, c] ++ M.nodesL u n k) ++ outsL n k s j)) ∧ x.size ≤ 76 + j ∧ Below (w.heap.size + 1) (w.alloc (.cells #[.int .i64 i0, .int .i64 o, .string t, .string s] 23)) wr ∧ w.heap.size + 1 ≤ wr.heap.size) (fun _ i _ => c - (intOf i).toNat)
      case atStart => exact ⟨0, x, by omega, rfl, rfl, H1, hx100, unhide HB, hsz⟩
      case round =>
        clear H1 hx100 hxs hx HB hsz
        obtain ⟨j, x, hj, rfl, rfl, hx, hxs, hbel, hsz⟩ := hrel
        have HB := hide hbel
        clear hbel
        by_cases hlt : j < c
        · have pj : j < f.size := by omega
          have qj : (f[j]'pj).toNat < 256 := UInt8.toNat_lt _
          have HFj : Hid ((f[j]'pj).toNat = M.bz s j) := by show _ = _; rw [M.bz_at f j pj, HFa.out j hlt]
          have hmd := emod_bd (f[j]'pj).toNat (n + k) qj
          have HMd := hide (show ((f[j]'pj).toNat : Int) % ((n : Int) + (k : Int)) = (((f[j]'pj).toNat % (n + k) : Nat) : Int) from by rw [Int.natCast_emod, Int.natCast_add])
          have hle : (f[j]'pj).toNat % (n + k) ≤ (f[j]'pj).toNat := Nat.mod_le _ _
          have HS := hide (outsL_succ n k s j)
          go_wp2_with fail
          rw [HMd.out]
          refine (kOne_at _ _ (by omega) (unhide HB) hsz).mono ?_
          rintro e w6 ⟨rfl, hb6, hz6⟩
          rw [HFj.out]
          have HX : Hid (x ++ M.bytesOf [M.bz s j % (n + k)] = M.bytesOf (([77, n, k, c] ++ M.nodesL u n k) ++ outsL n k s (j + 1))) := by
            rw [HS.out, hx.out, M.bytesOf_append, List.append_assoc]; rfl
          have HZ : Hid ((M.bytesOf (([77, n, k, c] ++ M.nodesL u n k) ++ outsL n k s (j + 1))).size ≤ 76 + (j + 1)) := by
            rw [M.bytesOf_size, List.length_append, List.length_append, M.nodesL_length, outsL_length]; show 4 + _ + _ ≤ _; omega
          have HB6 := hide hb6
          clear hb6
          go_wp2
          go_roundw
          case rel => exact ⟨j + 1, _, by omega, by go_num, rfl, HX, by rw [HX.out]; exact HZ.out, unhide HB6, hz6⟩
          case measure => simp [intOf]; omega
        · have hjc : j = c := by omega
          subst hjc
          have HE : Hid (x = M.bytesOf (imageL i0 o t s)) := by rw [HFIN.out, hx.out]; unfold M.imgL; rw [List.append_assoc]; rfl
          go_wp2
          go_ret
          exact ⟨ret_string HE.out, below_in (unhide HB)⟩
end Go.Proofs.YtjfmiomopfjecabGreat

/- slotskeep's question, answers, input, behind. -/
namespace Go.Proofs.YtjfmiomopfjecabGreat
open Go.RowKit

theorem kQuestion_any (s inp : ByteArray) (w : World) (hs : 2 ≤ s.size) (hs2 : s.size ≤ 1000) (hi : inp.size ≤ maxLen) :
    Calls Tryz.prog 35 #[.string s, .string inp] w fun e w' => e = .returned (.string (M.bytesOf (M.fillL inp (2 * M.bz s 1)))) ∧ w = w' := by
  have p1 : 1 < s.size := by omega
  have q1 := M.bz_lt s 1
  have HE := hide (M.bz_at s 1 p1)
  have hq : (s[1]'p1).toNat < 256 := UInt8.toNat_lt _
  go_enter Tryz.func35, Tryz.ntmps35
  go_wp2_with fail
  rw [HE.out, show (2 * (M.bz s 1 : Int)) = ((2 * M.bz s 1 : Nat) : Int) from by omega]
  refine (kFill_any inp (2 * M.bz s 1) _ hi (by omega)).mono ?_
  rintro e w' ⟨rfl, rfl⟩
  generalize hr : M.bytesOf (M.fillL inp (2 * M.bz s 1)) = r at *
  have HR := hide hr
  clear hr
  go_wp2
  go_ret
  exact ⟨ret_string HR.out.symm, rfl⟩

theorem ret_tb {a : ByteArray} {c d : Bool} (h : c = d) : Ending.returned (.tuple #[.string a, .bool c]) = .returned (.tuple #[.string a, .bool d]) := by rw [h]
theorem evalOut_size (s inp : ByteArray) : (M.evalOut s inp).size = 2 * M.bz s 3 := M.outTo_size _ _ _ _
theorem kAnswers_any (s q : ByteArray) (w : World) (h : M.isImage s = true) (hq : q.size = 2 * M.bz s 1) :
    Calls Tryz.prog 36 #[.string s, .string q] w fun e w' => e = .returned (.tuple #[.string (M.evalOut s q), .bool true]) ∧ Below w.heap.size w w' := by
  obtain ⟨h0, h1, h2, h3, h4, h5, h6⟩ := M.headOk_eq (image_head h)
  have hs : s.size ≤ maxLen := by unfold maxLen; omega
  have hqs : q.size ≤ maxLen := by unfold maxLen; omega
  have e1 : evalTxt s q = M.evalOut s q := by unfold evalTxt; rw [h, if_pos rfl, if_pos hq]
  have e2 : evalNum s q = 0 := by unfold evalNum; rw [h, if_pos rfl, if_pos hq]
  have hc := fun w => slotsEval_any s q w hs hqs
  rw [e1, e2] at hc
  have HC := hide hc
  have p3 : 3 < s.size := by omega
  have hz := evalOut_size s q
  have hb3 := M.bz_at s 3 p3
  have hq3 : (s[3]'p3).toNat < 256 := UInt8.toNat_lt _
  have i3 : (3 : Int) < (s.size : Int) := by omega
  rw [← hb3] at hz
  generalize M.evalOut s q = r at *
  have hw : IntKind.i64.wrap ((s[3]'p3).toNat : Int) = ((s[3]'p3).toNat : Int) := IntWalk.i64_in _ ⟨by omega, by omega⟩
  have hw2 : IntKind.i64.wrap (2 * ((s[3]'p3).toNat : Int)) = 2 * ((s[3]'p3).toNat : Int) := IntWalk.i64_in _ ⟨by omega, by omega⟩
  have heq : ((r.size : Int) == 2 * ((s[3]'p3).toNat : Int)) = true := beq_iff_eq.2 (by omega)
  clear h h0 h6 e1 e2 hc hz hb3 hq
  go_enter Tryz.func36, Tryz.ntmps36
  go_wp2_with fail
  refine (unhide HC _).mono ?_
  rintro e w1 ⟨rfl, hb⟩
  go_wp2_with fail
  go_quiet (fail)
  go_wp2
  go_ret2
  exact ⟨ret_tb heq, below_drewN hb _⟩

/-- what the image of raw numbers is -/
theorem imageL_facts (i o : Int) (t s : ByteArray) :
    M.isImage (M.bytesOf (imageL i o t s)) = true ∧ M.bz (M.bytesOf (imageL i o t s)) 1 = inN i ∧ M.bz (M.bytesOf (imageL i o t s)) 2 = nodesN t ∧ M.bz (M.bytesOf (imageL i o t s)) 3 = inN o ∧ (M.bytesOf (imageL i o t s)).size = 4 + 3 * nodesN t + inN o := by
  have bi := inN_bd i
  have bo := inN_bd o
  have bm := nodesN_le t
  have hl := M.nodesL_length (fstT t 72) (inN i) (nodesN t)
  have ha := M.nodesL_all (fstT t 72) (inN i) (nodesN t)
  have ho := outsL_length (inN i) (nodesN t) s (inN o)
  have hao := outsL_all (inN i) (nodesN t) s (inN o)
  have hb := M.img_bz (n := inN i) (m := nodesN t) (o := inN o) bi.2 bm bo.2 ha hao
  refine ⟨?_, hb.1, hb.2.1, hb.2.2, M.img_size hl ho⟩
  refine M.img_isImage bi.1 bi.2 bm bo.1 bo.2 hl ho ha hao ?_ ?_
  · intro k hk
    have e0 := M.nodesL_at (fstT t 72) (inN i) (nodesN t) k 0 hk (by omega)
    have e1 := M.nodesL_at (fstT t 72) (inN i) (nodesN t) k 1 hk (by omega)
    have e2 := M.nodesL_at (fstT t 72) (inN i) (nodesN t) k 2 hk (by omega)
    rw [Nat.add_zero] at e0
    rw [e0, e1, e2]
    exact M.nodeL_ok (by omega)
  · intro j hj
    rw [outsL_getD _ _ _ _ _ hj]
    exact Nat.mod_lt _ (by omega)

/-- the same nodes with other outputs -/
def withOuts (i : Int) (t : ByteArray) (outs : List Nat) : List Nat := M.imgL (inN i) (nodesN t) outs.length (M.nodesL (fstT t 72) (inN i) (nodesN t)) outs
theorem nodes_ok (i : Int) (t : ByteArray) (k : Nat) (hk : k < nodesN t) : M.okOp ((M.nodesL (fstT t 72) (inN i) (nodesN t)).getD (3 * k) 0) ((M.nodesL (fstT t 72) (inN i) (nodesN t)).getD (3 * k + 1) 0) ((M.nodesL (fstT t 72) (inN i) (nodesN t)).getD (3 * k + 2) 0) (inN i + k) = true := by
  have bi := inN_bd i
  have e0 := M.nodesL_at (fstT t 72) (inN i) (nodesN t) k 0 hk (by omega)
  have e1 := M.nodesL_at (fstT t 72) (inN i) (nodesN t) k 1 hk (by omega)
  have e2 := M.nodesL_at (fstT t 72) (inN i) (nodesN t) k 2 hk (by omega)
  rw [Nat.add_zero] at e0
  rw [e0, e1, e2]
  exact M.nodeL_ok (by omega)
/-- one node more, which is the output -/
def behindL (i : Int) (t : ByteArray) (op a b : Nat) : List Nat := M.imgL (inN i) (nodesN t + 1) 1 (M.nodesL (fstT t 72) (inN i) (nodesN t) ++ [op, a, b]) [inN i + nodesN t]

theorem drop_take_img (n m o : Nat) (nodes outs : List Nat) (h : nodes.length = 3 * m) : ((M.imgL n m o nodes outs).drop 4).take (3 * m) = nodes := by
  unfold M.imgL
  show ((nodes ++ outs)).take (3 * m) = nodes
  rw [← h, List.take_left]
theorem take_img (n m o : Nat) (nodes outs : List Nat) (h : nodes.length = 3 * m) : ((M.imgL n m o nodes outs).drop 0).take (4 + 3 * m) = [77, n, m, o] ++ nodes := by
  unfold M.imgL
  rw [List.drop_zero, ← List.append_assoc, ← h]
  have : 4 + nodes.length = ([77, n, m, o] ++ nodes).length := by simp; omega
  rw [this, List.take_left]

end Go.Proofs.YtjfmiomopfjecabGreat

/- What a device that is played for a change holds, and how it serves. -/
namespace Go.Proofs.YtjfmiomopfjecabGreat
open Go.RowKit Go.Lib

theorem page_more {F : Nat → Nat} (hF : ∀ j, F j < 256) (p k : Nat) (i : Int) (hi : i = ((p + k : Nat) : Int)) (hp : p + k < 23) :
    (M.mk (16 * k) fun j => F (16 * p + j)) ++ pageT F i = M.mk (16 * (k + 1)) fun j => F (16 * p + j) := by
  subst hi
  have e : pageT F ((p + k : Nat) : Int) = M.mk 16 fun j => F (16 * (p + k) + j) := by
    unfold pageT
    rw [if_pos ⟨by omega, by omega⟩]
    rfl
  rw [e]
  refine M.bz_ext (by simp [M.mk_size]; omega) fun j hj => ?_
  have hj' : j < 16 * (k + 1) := by simp [M.mk_size] at hj; omega
  rw [M.bz_append, M.mk_size, M.bz_mk (fun j _ => hF _) hj']
  by_cases h : j < 16 * k
  · rw [if_pos h, M.bz_mk (fun j _ => hF _) h]
  · rw [if_neg h, M.bz_mk (fun j _ => hF _) (by omega)]
    congr 1
    omega
theorem pageT_le (F : Nat → Nat) (i : Int) : (pageT F i).size ≤ 16 := by
  unfold pageT
  split
  · rw [M.mk_size]; omega
  · show 0 ≤ 16; omega
theorem first_held {F : Nat → Nat} (hF : ∀ j, F j < 256) {p : Nat} {T : ByteArray} (hz : T.size ≤ 96) (hT : ∀ j, j < T.size → F (16 * p + j) = M.bz T j) :
    fstT (M.mk 96 fun j => F (16 * p + j)) T.size = T := by
  refine M.bz_ext (by rw [fstT_size, M.mk_size]; omega) fun j hj => ?_
  have hj' : j < T.size := by rw [fstT_size, M.mk_size] at hj; omega
  rw [fstT_bz _ _ _ hj', M.bz_mk (fun j _ => hF _) (by omega)]
  exact hT j hj'
section
variable {W : World} {r b : Nat} {j : M.Job} {ex inp : ByteArray} {d : M.Dev}
set_option maxRecDepth 10000 in
set_option maxHeartbeats 1000000 in
theorem runStands_any (h : RunRel W r b j ex inp d) (sl : Nat) (hsl : sl ≤ 1) (sb : Bool) (a1 a3 a4 a5 a6 : Int) (hst : statOf d = .agg #[.bool sb, .int .i64 a1, .int .i64 sl, .int .i64 a3, .int .i64 a4, .int .i64 a5, .int .i64 a6])
    (hF : ∀ j, d.F j < 256) (T : ByteArray) (hz : T.size ≤ 96) (hT : ∀ j, j < T.size → d.F (16 * (11 + 6 * sl) + j) = M.bz T j) :
    Calls Tryz.prog 37 #[.pointer (some ⟨r, 0, none⟩), .string T] W fun e w' => e = .returned (.tuple #[]) ∧ Below W.heap.size W w' := by
  have HS := hide (runStatus_any h)
  rw [hst] at HS
  have HE := hide (first_held hF hz hT)
  have HR := hide h
  have HF := hide hF
  have hlt := h.lt.1
  clear h hst hF hT
  go_enter Tryz.func37, Tryz.ntmps37
  go_wp2_with fail
  refine (unhide HS).mono ?_
  rintro e w1 ⟨rfl, hb1⟩
  have hs1 := hb1.size
  have HR1 := hide ((unhide HR).kept hb1)
  have HB1 := hide hb1
  obtain ⟨hxr, hfr⟩ := block_facts (kept_block hb1 (unhide HR).run)
  clear hb1 HS HR
  have hd1 : decide ((sl : Int) < 0) = false := decide_eq_false (by omega)
  have hd2 : decide ((1 : Int) < (sl : Int)) = false := decide_eq_false (by omega)
  have l1 : r < w1.heap.size := (by omega); have n1 : ¬ r = w1.heap.size := (by omega)
  go_wp2_with fail
  go_loopw [5, 6] (fun v i wr => ∃ (k : Nat) (x : ByteArray), k ≤ 6 ∧ i = .int .i64 k ∧ v = .string x ∧ Hid (x = M.mk (16 * k) fun j => d.F (16 * (11 + 6 * sl) + j)) ∧ Below (w1.heap.size + 1) (w1.alloc (.cells #[.bool sb, .int .i64 a1, .int .i64 sl, .int .i64 a3, .int .i64 a4, .int .i64 a5, .int .i64 a6] 52)) wr) (fun _ i _ => 6 - (intOf i).toNat)
  case atStart => exact ⟨0, _, by omega, rfl, rfl, rfl, Below.refl _ _⟩
  case round =>
    obtain ⟨k, x, hk, rfl, rfl, hx, hbel⟩ := hrel
    have hc := box_cell hbel
    have hrel1 := (unhide HR1).kept (one_alloc hbel)
    have hxs : x.size = 16 * k := by rw [hx.out, M.mk_size]
    have HB := hide (one_alloc hbel)
    obtain ⟨hxr', hfr'⟩ := block_facts hrel1.run
    clear hxr hfr
    by_cases hlt6 : k < 6
    · have HBel := hide hbel
      clear hbel
      have HX := hide (page_more (unhide HF) (11 + 6 * sl) k ((11 : Int) + (sl : Int) * 6 + (k : Int)) (by omega) (by omega))
      have HPG : Hid (∀ (n : Nat) (i : Int), i = (11 : Int) + (sl : Int) * 6 + (k : Int) → Calls Tryz.prog 38 #[.pointer (some ⟨b, 0, none⟩), .int .i64 i] (wr.drewN n) fun e w' => e = .returned (.string (pageT d.F ((11 : Int) + (sl : Int) * 6 + (k : Int)))) ∧ w' = wr.drewN n) := by
        rintro n i rfl
        exact (slotsPage_any (unhide HF) (hrel1.dev.kept (below_drewN (Below.refl _ _) n)) _).mono fun e w' hh => ⟨hh.1, hh.2.symm⟩
      have hps := pageT_le d.F ((11 : Int) + (sl : Int) * 6 + (k : Int))
      clear hrel1
      generalize pageT d.F ((11 : Int) + (sl : Int) * 6 + (k : Int)) = pg at *
      go_wp2_with fail
      go_quiet ((go_at_call 38; exact Calls.quiet_of_same (unhide HPG _ _ (by omega))))
      go_wp2
      go_roundw
      case rel => exact ⟨k + 1, x ++ pg, by omega, by go_num, rfl, by show _ = _; rw [hx.out]; exact HX.out, below_drewN (unhide HBel) _⟩
      case measure => simp [intOf]; omega
    · have hk6 : k = 6 := by omega
      subst hk6
      have HEx : Hid (fstT x T.size = T) := by show _ = _; rw [hx.out]; exact HE.out
      clear hlt6 hx HE hbel hrel1
      go_wp2_with fail
      refine (kFirst_any x T.size _ (by unfold maxLen; omega) (by omega)).mono ?_
      rintro e w' ⟨rfl, rfl⟩
      rw [HEx.out]
      go_wp2_with fail
      refine (must_true _ _).mono ?_
      rintro e w' ⟨rfl, rfl⟩
      go_wp2
      refine bodyPost_end (v := .tuple #[]) (by simp [results, Tryz.results37, go_sem]) rfl ⟨rfl, ?_⟩
      exact (unhide HB1).trans ((unhide HB).mono hs1)
set_option maxRecDepth 10000 in
set_option maxHeartbeats 1000000 in
theorem runServes_any (h : RunRel W r b j ex inp d) (ver : Nat) (T : ByteArray) (hE : (if ver = j.up then j.now else j.old) = T) (hi : M.isImage T = true) (hin : inp.size ≤ maxLen)
    (hd : M.doM d ⟨4, 0, M.bytesOf (M.fillL inp (2 * M.bz T 1)), -1, 0⟩ = (d, ⟨0, ver, M.evalOut T (M.bytesOf (M.fillL inp (2 * M.bz T 1))), -1⟩))
    (sl : Nat) (hsl : sl ≤ 1) (sb : Bool) (a1 a3 a4 a5 a6 : Int) (hst : statOf d = .agg #[.bool sb, .int .i64 a1, .int .i64 sl, .int .i64 a3, .int .i64 a4, .int .i64 a5, .int .i64 a6])
    (hF : ∀ j, d.F j < 256) (hT : ∀ j, j < T.size → d.F (16 * (11 + 6 * sl) + j) = M.bz T j) :
    Calls Tryz.prog 15 #[.pointer (some ⟨r, 0, none⟩), .int .i64 ver] W fun e w' => Goes W r b j ex inp d e w' := by
  obtain ⟨h0, h1, h2, h3, h4, h5, h6⟩ := M.headOk_eq (image_head hi)
  have hz : T.size ≤ 96 := by omega
  have hz2 : 2 ≤ T.size := by omega
  have hqz : (M.bytesOf (M.fillL inp (2 * M.bz T 1))).size = 2 * M.bz T 1 := by rw [M.bytesOf_size, M.fillL_length]
  have hq8 : 2 * M.bz T 1 ≤ 600 := by have := M.bz_lt T 1; omega
  have HQ : Hid (∀ X : World, Calls Tryz.prog 35 #[.string T, .string inp] X fun e w' => e = .returned (.string (M.bytesOf (M.fillL inp (2 * M.bz T 1)))) ∧ X = w') := fun X => kQuestion_any T inp X hz2 (by omega) hin
  have HA : Hid (∀ X : World, Calls Tryz.prog 36 #[.string T, .string (M.bytesOf (M.fillL inp (2 * M.bz T 1)))] X fun e w' => e = .returned (.tuple #[.string (M.evalOut T (M.bytesOf (M.fillL inp (2 * M.bz T 1)))), .bool true]) ∧ Below X.heap.size X w') := fun X => kAnswers_any T _ X hi hqz
  have HSt : Hid (∀ X : World, RunRel X r b j ex inp d → Calls Tryz.prog 37 #[.pointer (some ⟨r, 0, none⟩), .string T] X fun e w' => e = .returned (.tuple #[]) ∧ Below X.heap.size X w') := fun X hX => runStands_any hX sl hsl sb a1 a3 a4 a5 a6 hst hF T hz hT
  have HR := hide h
  obtain ⟨hxr, hfr⟩ := block_facts h.run
  clear h0 h1 h2 h3 h4 h5 h6 hst hF hT hi hz hz2 hin h
  generalize M.evalOut T (M.bytesOf (M.fillL inp (2 * M.bz T 1))) = want at *
  generalize M.bytesOf (M.fillL inp (2 * M.bz T 1)) = q at *
  have HDO : Hid (∀ X : World, RunRel X r b j ex inp d → Calls Tryz.prog 34 #[.pointer (some ⟨r, 0, none⟩), evV 4 0 q (-1) 0] X fun y w' => y = .returned (rpV ⟨0, ver, want, -1⟩) ∧ RunRel w' r b j ex inp d ∧ Only (· = b) X w') := by
    intro X hX
    refine (runDo_any hX ⟨4, 0, q, -1, 0⟩ (by show q.size ≤ _; unfold maxLen; omega)).mono fun y w' hp => ?_
    have hrel := hX.does hp
    obtain ⟨hy, _, ho⟩ := hp
    rw [hd] at hrel hy
    exact ⟨hy, hrel, ho⟩
  clear hd hqz
  have hcase : (j.now = T ∧ ver = j.up) ∨ (j.old = T ∧ ¬ (ver : Int) = (j.up : Int)) := by
    by_cases hv : ver = j.up
    · rw [if_pos hv] at hE
      exact .inl ⟨hE, hv⟩
    · rw [if_neg hv] at hE
      exact .inr ⟨hE, by omega⟩
  clear hE
  rcases hcase with ⟨hE, rfl⟩ | ⟨hE, hv'⟩
  all_goals
    have HE := hide hE
    clear hE
    go_enter Tryz.func15, Tryz.ntmps15
    go_wp2_with fail
    rw [HE.out]
    refine (unhide HQ _).mono ?_
    rintro e w1 ⟨rfl, rfl⟩
    go_wp2_with fail
    refine (unhide HA _).mono ?_
    rintro e w1 ⟨rfl, hb1⟩
    have HR1 := hide ((unhide HR).kept hb1)
    have HB1 := hide hb1
    clear hb1 hxr hfr HQ HA HR HE
    go_wp2_with fail
    refine (unhide HDO _ (unhide HR1)).mono ?_
    rintro e w2 ⟨rfl, hr2, ho2⟩
    have HOL := hide ((Only.of (unhide HB1)).trans ho2)
    have HR2 := hide hr2
    clear hr2 ho2 HDO HR1 HB1
    try clear hv'
    go_wp2_with fail
    refine (must_true _ _).mono ?_
    rintro e w' ⟨rfl, rfl⟩
    go_wp2_with fail
    refine (unhide HSt _ ((unhide HR2).kept ((Below.refl _ _).alloc (Nat.le_refl _) _))).mono ?_
    rintro e w3 ⟨rfl, hb3⟩
    have HR3 := hide (((unhide HR2).kept ((Below.refl _ _).alloc (Nat.le_refl _) _)).kept hb3)
    have HB6 := hide hb3
    clear hb3 HSt
    go_wp2
    refine bodyPost_end (v := .tuple #[]) (by simp [results, Tryz.results15, go_sem]) rfl ⟨rfl, unhide HR3, ?_⟩
    repeat (first | with_reducible exact unhide HOL | with_reducible refine ol_drew ?_ | with_reducible refine ol_dev ?_ | (with_reducible refine ol_set ?_ ?_; (focus (first | omega | (simp; done) | (simp; omega)))) | with_reducible refine ol_alloc ?_ | with_reducible refine ol_via (unhide HB6) ?_ | with_reducible refine ol_via (unhide HB7) ?_)
end
end Go.Proofs.YtjfmiomopfjecabGreat

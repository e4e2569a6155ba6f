/- Texts laid together: DevInst, DevFetch, DevRaw5, DevTries, DevEv, DevTick, DevStat, RefNote. -/
import Derived.Test.YtjfmiomopfjecabGreatAd
import Derived.Deep.RegionLaw
import Derived.Deep.DrawnRows
import Derived.Test.YtjfmiomopfjecabGreatAb
import Derived.Test.YtjfmiomopfjecabGreatAc
import Derived.Test.YtjfmiomopfjecabGreatAa
/- The new image is installed, or given up. -/
namespace Go.Proofs.YtjfmiomopfjecabGreat
open Go.RowKit Go.Lib
attribute [local go_sem ↓] Go.wp_at_zero Go.wp_at_succ

/-- what holds behind a piece of code, said once -/
theorem cut_code {c : Code} {a : Act} {W : World} {Q : Exit → Act → World → Prop} (Φ : Act → World → Prop) (h1 : c.wp Tryz.prog (fun e a w => e = .normal ∧ Φ a w) a W) (h2 : ∀ a w, Φ a w → Q .normal a w) : c.wp Tryz.prog Q a W :=
  Code.wp_mono (fun _ a w ⟨he, h⟩ => he ▸ h2 a w h) h1
theorem oset {W : World} {base g o : Nat} {u : Value} {e : TypeId} {size : Nat} {v : Value} {n : Nat} {xs : List Value} (hg : g < base) (h : W.ownsRow base e size v n xs) : (W.setCell ⟨g, o, none⟩ u).ownsRow base e size v n xs := ownsRow_setCell_below h (a := ⟨g, o, none⟩) hg u
/-- one page more, as a step of a region that draws its order -/
theorem step_write {ops : Array Oper} {o : Oper} {a : Act} {K : Act → World → Prop} {Q : Exit → Act → World → Prop} {E : Prop} {W : World} (hgd : o.guard = none) (s x : Operand)
    (ho : o.op = .call { callee := .builtin .append, args := #[s, x], argTypes := #[127, 127] })
    (base : Nat) (v : Value) (l : List GW) (y : GW) (g : Nat) (hs : a.eval s = v) (hx : a.eval x = .slice (some ⟨g, 0, none⟩) 1 1) (hc : W.cell? ⟨g, 0, none⟩ = some (.int .i64 (y.1 : Int))) (hc1 : W.cell? ⟨g, 1, none⟩ = some (.string y.2))
    (hown : W.ownsRow base 136 2 v l.length (gwCells l)) (hn : l.length + 1 ≤ 1000000) (hbase : base ≤ W.heap.size)
    (h : ∀ v' w', w'.ownsRow base 136 2 v' (l ++ [y]).length (gwCells (l ++ [y])) → (∀ w0, Below base w0 W → Below base w0 w') → W.heap.size ≤ w'.heap.size → K (a.put o.dst v') w') :
    if Region.wanted o (yielded ops a.tmps) = true then Oper.wp Tryz.prog o a W K Q else E := by
  have hw : Region.wanted o (yielded ops a.tmps) = true := by simp [Region.wanted, hgd]
  rw [if_pos hw]
  obtain ⟨i0, hi, hz0, hz1, hz2⟩ := info_parts infoW
  refine wp_append_own _ s x 127 ho base 136 i0 _ 2 24 Tryz.underlying127 hi hz0 hz1 hz2 rfl (by decide) v l.length (gwCells l) hs hown ⟨g, 0, none⟩ 1 1 [.int .i64 (y.1 : Int), .string y.2] hx rfl ?_ ?_ (by unfold maxLen; omega) (by omega) hbase ?_
  · intro j u hj
    match j, hj with
    | 0, hj => simp at hj; subst hj; rw [add_at]; exact hc
    | 1, hj => simp at hj; subst hj; rw [add_at]; exact hc1
  · intro u hu
    simp only [List.mem_cons, List.not_mem_nil, or_false] at hu
    rcases hu with rfl | rfl <;> rfl
  · intro v' w' hown' hgrow _
    refine h v' w' ?_ (fun w0 hb0 => ?_) hgrow.size
    · rw [List.length_append, gwCells_snoc]
      exact hown'
    · exact hb0.grown hgrow hbase (fun k hk => (hown.lt k hk).1)
section
variable {pg num kp ph tr s0 v0 s1 v1 th : Nat} {w : World} {b : Nat} {t : TypeId} {key : ByteArray} {F : Nat → Nat} {on : Bool} {wait next age : Nat}
set_option maxRecDepth 10000 in
set_option maxHeartbeats 1000000 in
theorem rawInstall_no (hd : DevAt w b t key F on wait next age) (hr : RecOk pg num kp ph tr s0 v0 s1 v1 th) (m : Array Value) (hm : ∃ a0 a2 a4 a5 a6 : Int, ∃ ao n cap x1 x2 x3, m = manC a0 a2 a4 a5 a6 (.slice ao n cap) x1 x2 x3) (en : Int) (he : en ≠ 0)
    (hbt : ∀ (W : World) (_ : DevAt W b t key F on wait next age), Calls Tryz.prog 195 #[.pointer (some ⟨b, 0, none⟩), recV pg num kp ph tr s0 v0 s1 v1 th, .agg m] W fun e w' => e = .returned (.tuple #[.string ⟨#[]⟩, .int .i64 en]) ∧ Below W.heap.size W w') :
    Calls Tryz.prog 185 #[.pointer (some ⟨b, 0, none⟩), recV pg num kp ph tr s0 v0 s1 v1 th, .agg m] w fun e w' => OutRaw w on wait next age en ⟨#[]⟩ (-1) [(1 - pg, recP ((num + 1) % 256) kp 0 0 s0 v0 s1 v1 0)] e w' := by
  obtain ⟨a0, a2, a4, a5, a6, ao, n, cap, x1, x2, x3, rfl⟩ := hm
  have HD := hide hd
  have HBT := hide hbt
  have hn0 : (en != 0) = true := by simp [he]
  have HC := hide (fun W => recSteady_any pg num kp ph tr s0 v0 s1 v1 th W hr.1 hr.2.1)
  have HR := hide (fun (W : World) (hW : DevAt W b t key F on wait next age) => recorded_ok (next_ok (p := 0) (q := 0) (k := kp) (t := 0) hr (by omega) (by omega) hr.2.2.1 (by omega)) hW)
  clear hd hbt hr
  go_enter Tryz.func185, Tryz.ntmps185
  go_wp2_with fail
  refine (unhide HBT _ ((((unhide HD).alloc _).alloc _).alloc _)).mono ?_
  rintro e w1 ⟨rfl, hb1⟩
  obtain ⟨k1, k2, k3, hs1, hb⟩ := blk3 hb1
  have HD1 := hide (((((unhide HD).alloc _).alloc _).alloc _).kept hb1)
  obtain ⟨hx1, hf1⟩ := block_facts k1
  have K3 := hide k3
  have HB1 := hide hb
  clear hb hb1 k1 k2 k3
  have l1 : w.heap.size < w1.heap.size := (by omega); have n1 : ¬ w.heap.size = w1.heap.size := (by omega)
  go_wp2_with fail
  refine (unhide HC _).mono ?_
  rintro e w2 ⟨rfl, hb2⟩
  have HD2 := hide ((unhide HD1).kept hb2)
  have K3' := hide (kept_block hb2 (unhide K3))
  have hs2 := hb2.size
  have HB2 := hide hb2
  clear hb2 hx1 hf1 K3 HD1
  generalize hN : (num + 1) % 256 = N at *; generalize hP : 1 - pg = P at *; have HN := hide hN; have HP := hide hP; clear hN hP
  go_wp2_with fail
  refine (unhide HR _ (unhide HD2)).mono ?_
  rintro e w3 ⟨g, rfl, hown, hb3⟩
  obtain ⟨hx3, hf3⟩ := block_facts (kept_block hb3 (unhide K3'))
  have hs3 := hb3.size
  have HO : Hid (w3.ownsRow w2.heap.size 136 2 (.slice (some ⟨g, 0, none⟩) 1 1) 1 (gwCells [(P, recP N kp 0 0 s0 v0 s1 v1 0)])) := hown
  have HB3 := hide hb3
  clear hown hb3
  have l3 : w.heap.size + 1 + 1 < w3.heap.size := (by omega); have n3 : ¬ w.heap.size + 1 + 1 = w3.heap.size := (by omega)
  go_wp2
  refine bodyPost_ret (v := outV (.slice (some ⟨g, 0, none⟩) 1 1) on wait next age en ⟨#[]⟩ (-1)) (by simp [results, Tryz.results185, go_sem, hx3, l3]) rfl ⟨some ⟨g, 0, none⟩, 1, rfl, ?_, ?_⟩
  · rw [HN.out, HP.out]
    refine ownsRow_base (base' := w2.heap.size) ?_ (by omega)
    repeat (first | with_reducible refine World.ownsRow.alloc ?_ _ | (with_reducible refine oset ?_ ?_; (focus omega)))
    exact unhide HO
  · repeat (first | with_reducible exact unhide HB | with_reducible exact Below.refl _ _ | with_reducible refine bdrew ?_ | (with_reducible refine brow ?_ ?_; (focus (first | omega | (simp; done) | (simp; omega)))) | (with_reducible refine bset ?_ ?_; (focus (first | omega | (simp; done) | (simp; omega)))) | (with_reducible refine balloc ?_ ?_; (focus (first | omega | (simp; done) | (simp; omega)))) | (with_reducible refine bvia (unhide HB1) ?_ ?_; (focus (first | omega | (simp; done) | (simp; omega)))) | (with_reducible refine bvia (unhide HB2) ?_ ?_; (focus (first | omega | (simp; done) | (simp; omega)))) | (with_reducible refine bvia (unhide HB3) ?_ ?_; (focus (first | omega | (simp; done) | (simp; omega)))) | (with_reducible refine bvia (unhide HB4) ?_ ?_; (focus (first | omega | (simp; done) | (simp; omega)))) | (with_reducible refine bvia (unhide HB5) ?_ ?_; (focus (first | omega | (simp; done) | (simp; omega)))) | (with_reducible refine bvia (unhide HB6) ?_ ?_; (focus (first | omega | (simp; done) | (simp; omega)))))
theorem tryRec_ok {s v : Nat} (h : RecOk pg num kp ph tr s0 v0 s1 v1 th) (hs : s < 256) (hv : v ≤ 65535) : RecOk (1 - pg) ((num + 1) % 256) kp 2 3 (if kp = 0 then s0 else s) (if kp = 0 then v0 else v) (if kp = 0 then s else s1) (if kp = 0 then v else v1) 0 := by
  obtain ⟨h0, h1, h2, h3, h4, h5, h6, h7, h8, h9⟩ := h
  refine ⟨by omega, by omega, h2, by omega, by omega, ?_, ?_, ?_, ?_, by omega⟩ <;> split <;> assumption
set_option maxRecDepth 10000 in
set_option maxHeartbeats 4000000 in
theorem rawInstall_yes (hd : DevAt w b t key F on wait next age) (hr : RecOk pg num kp ph tr s0 v0 s1 v1 th) (im : ByteArray) (hi : im.size ≤ 96) (a0 : Nat) (ha0 : a0 ≤ 65535) (a2 a4 a5 a6 : Int) (ao : Option Addr) (n cap : Nat) (x1 : Bool) (x2 x3 : ByteArray)
    (hbt : ∀ (W : World) (_ : DevAt W b t key F on wait next age), Calls Tryz.prog 195 #[.pointer (some ⟨b, 0, none⟩), recV pg num kp ph tr s0 v0 s1 v1 th, manV a0 a2 a4 a5 a6 (.slice ao n cap) x1 x2 x3] W fun e w' => e = .returned (.tuple #[.string im, .int .i64 0]) ∧ Below W.heap.size W w') :
    Calls Tryz.prog 185 #[.pointer (some ⟨b, 0, none⟩), recV pg num kp ph tr s0 v0 s1 v1 th, manV a0 a2 a4 a5 a6 (.slice ao n cap) x1 x2 x3] w fun e w' => OutRaw w on wait next 0 0 ⟨#[]⟩ (-1) (spreadG (11 + 6 * (1 - kp)) (M.chunksN im.size) im ++ [(1 - pg, recP ((num + 1) % 256) kp 2 3 (if kp = 0 then s0 else im.size) (if kp = 0 then v0 else a0) (if kp = 0 then im.size else s1) (if kp = 0 then a0 else v1) 0)]) e w' := by
  have HD := hide hd
  have HBT := hide hbt
  have hk := hr.2.2.1
  have hcn : M.chunksN im.size ≤ 6 := by unfold M.chunksN; omega
  have HOT := hide (fun W => recOther_any pg num kp ph tr s0 v0 s1 v1 th W hk)
  have HSP := hide (fun W => spread_any (11 + 6 * (1 - kp)) (M.chunksN im.size) im W (by unfold maxLen; omega) (by omega) (by omega))
  have HNE := hide (fun W => needed_any im.size W (by omega))
  have HTR := hide (fun W => recTrying_any pg num kp ph tr s0 v0 s1 v1 th im.size a0 W hr.1 hr.2.1)
  have HW := hide (fun W => written_ok (tryRec_ok hr (s := im.size) (v := a0) (by omega) ha0) W)
  have HL := hide (spreadG_length (11 + 6 * (1 - kp)) (M.chunksN im.size) im)
  generalize hq0 : (if kp = 0 then s0 else im.size) = q0 at *
  generalize hq1 : (if kp = 0 then v0 else a0) = q1 at *
  generalize hq2 : (if kp = 0 then im.size else s1) = q2 at *
  generalize hq3 : (if kp = 0 then a0 else v1) = q3 at *
  clear hq0 hq1 hq2 hq3
  clear hd hbt hr
  go_enter Tryz.func185, Tryz.ntmps185
  go_wp2_with fail
  refine (unhide HBT _ ((((unhide HD).alloc _).alloc _).alloc _)).mono ?_
  rintro e w1 ⟨rfl, hb1⟩
  obtain ⟨k1, k2, k3, hs1, hb⟩ := blk3 hb1
  have HD1 := hide (((((unhide HD).alloc _).alloc _).alloc _).kept hb1)
  obtain ⟨hx2, hf2⟩ := block_facts k2
  have K1 := hide k1
  have K3 := hide k3
  have HB1 := hide hb
  clear hb hb1 k1 k2 k3
  have l2 : w.heap.size + 1 < w1.heap.size := (by omega); have n2 : ¬ w.heap.size + 1 = w1.heap.size := (by omega)
  go_wp2_with fail
  refine (devStill_any ((unhide HD1).alloc _)).mono ?_
  rintro e w2 ⟨rfl, hb2⟩
  have k1 := kept_block hb2 (alloc_block (unhide K1) _)
  have K3' := hide (kept_block hb2 (alloc_block (unhide K3) _))
  obtain ⟨kS, hs2, hb⟩ := blk1 hb2
  have KS := hide kS
  have K1' := hide k1
  obtain ⟨hx1, hf1⟩ := block_facts k1
  have HB2 := hide hb
  clear hb hb2 kS k1 K1 K3 HD1 hx2 hf2
  have l1 : w.heap.size < w2.heap.size := (by omega); have n1 : ¬ w.heap.size = w2.heap.size := (by omega)
  go_wp2_with fail
  refine (unhide HOT _).mono ?_
  rintro e w3 ⟨rfl, hb3⟩
  have K1 := hide (kept_block hb3 (alloc_block (unhide K1') _))
  have K3 := hide (kept_block hb3 (alloc_block (unhide K3') _))
  have KS3 := hide (kept_block hb3 (alloc_block (unhide KS) _))
  obtain ⟨kO, hs3, hb⟩ := blk1 hb3
  have KO3 := hide kO
  have HB3 := hide hb
  clear hb hb3 kO K1' K3' KS hx1 hf1
  generalize hKK : 1 - kp = kk at *
  have HKK := hide hKK
  clear hKK
  go_wp2_with fail
  refine (slotPage_any kk _ (by have := HKK.out; omega)).mono ?_
  rintro e w' ⟨rfl, rfl⟩
  generalize hPG : 11 + 6 * kk = pgs at *
  have HPG := hide hPG
  clear hPG
  go_wp2_with fail
  refine (unhide HNE _).mono ?_
  rintro e w' ⟨rfl, rfl⟩
  generalize hCN : M.chunksN im.size = cn at *
  have HCN := hide hCN
  clear hCN
  go_wp2_with fail
  refine (unhide HSP _).mono ?_
  rintro e w4 ⟨v4, rfl, hown4, hb4⟩
  obtain ⟨ao4, cap4, rfl, -⟩ := (holdsRow_own hown4).shape
  have K14 := hide (kept_block hb4 (unhide K1))
  have K34 := hide (kept_block hb4 (unhide K3))
  have KS4 := hide (kept_block hb4 (unhide KS3))
  have kO4 := kept_block hb4 (unhide KO3)
  obtain ⟨hxO, hfO⟩ := block_facts kO4
  have KO4 := hide kO4
  have hs4 := hb4.size
  have HO4 := hide hown4
  have HB4 : Hid (Below w.heap.size w w4) := by
    show Below _ _ _
    refine bvia hb4 (by omega) ?_
    repeat (first | with_reducible exact unhide HB | with_reducible exact Below.refl _ _ | with_reducible refine bdrew ?_ | (with_reducible refine brow ?_ ?_; (focus (first | omega | (simp; done) | (simp; omega)))) | (with_reducible refine bset ?_ ?_; (focus (first | omega | (simp; done) | (simp; omega)))) | (with_reducible refine balloc ?_ ?_; (focus (first | omega | (simp; done) | (simp; omega)))) | (with_reducible refine bvia (unhide HB1) ?_ ?_; (focus (first | omega | (simp; done) | (simp; omega)))) | (with_reducible refine bvia (unhide HB2) ?_ ?_; (focus (first | omega | (simp; done) | (simp; omega)))) | (with_reducible refine bvia (unhide HB3) ?_ ?_; (focus (first | omega | (simp; done) | (simp; omega)))) | (with_reducible refine bvia (unhide HB4) ?_ ?_; (focus (first | omega | (simp; done) | (simp; omega)))) | (with_reducible refine bvia (unhide HB5) ?_ ?_; (focus (first | omega | (simp; done) | (simp; omega)))) | (with_reducible refine bvia (unhide HB6) ?_ ?_; (focus (first | omega | (simp; done) | (simp; omega)))))
  clear hb4 hown4 kO4 K1 K3 KS3 KO3 HB1 HB2 HB3
  generalize hN : (num + 1) % 256 = N at *; generalize hP : 1 - pg = P at *; have HN := hide hN; have HP := hide hP; clear hN hP
  have HLc : Hid ((spreadG pgs cn im).length = cn) := HL
  go_wp2_with fail
  have kO9 := (setCell_in (unhide KO4) 0 (.slice ao4 cn cap4)).trans rfl
  have KO9 : Hid ((w4.setCell ⟨w2.heap.size, 0, none⟩ (.slice ao4 cn cap4)).heap[w2.heap.size]? = some (.cells (outC (.slice ao4 cn cap4) on wait next age 0 ⟨#[]⟩ (-1)) 163 (0, 0))) := kO9
  have KS9 : Hid ((w4.setCell ⟨w2.heap.size, 0, none⟩ (.slice ao4 cn cap4)).heap[w1.heap.size]? = some (.cells #[.int .i64 (im.size : Int), .int .i64 a0] 131 (0, 0))) := set_block (unhide KS4) (by omega)
  have K19 : Hid ((w4.setCell ⟨w2.heap.size, 0, none⟩ (.slice ao4 cn cap4)).heap[w.heap.size]? = some (.cells #[.int .i64 pg, .int .i64 num, .int .i64 kp, .int .i64 ph, .int .i64 tr, .int .i64 s0, .int .i64 v0, .int .i64 s1, .int .i64 v1, .int .i64 th] 133 (0, 0))) := set_block (unhide K14) (by omega)
  have HO9 : Hid ((w4.setCell ⟨w2.heap.size, 0, none⟩ (.slice ao4 cn cap4)).ownsRow w3.heap.size 136 2 (.slice ao4 cn cap4) cn (gwCells (spreadG pgs cn im))) := ownsRow_setCell_below (unhide HO4) (a := ⟨w2.heap.size, 0, none⟩) (by show w2.heap.size < w3.heap.size; omega) _
  have hz9 : (w4.setCell ⟨w2.heap.size, 0, none⟩ (.slice ao4 cn cap4)).heap.size = w4.heap.size := by simp
  have HB9 : Hid (Below w.heap.size w (w4.setCell ⟨w2.heap.size, 0, none⟩ (.slice ao4 cn cap4))) := (unhide HB4).setCell (by show w.heap.size ≤ w2.heap.size; omega) _
  have K39 : Hid ((w4.setCell ⟨w2.heap.size, 0, none⟩ (.slice ao4 cn cap4)).heap[w.heap.size + 1 + 1]? = some (.cells (outC (.slice none 0 0) false 0 0 0 0 ⟨#[]⟩ 0) 163 (0, 0))) := set_block (unhide K34) (by omega)
  clear kO9 KO4 KS4 K14 HO4 HB4 K34 hxO hfO
  generalize (w4.setCell ⟨w2.heap.size, 0, none⟩ (.slice ao4 cn cap4)) = W9 at *
  obtain ⟨hx1, hf1⟩ := block_facts (unhide K19)
  obtain ⟨hxS, hfS⟩ := block_facts (unhide KS9)
  obtain ⟨hxO, hfO⟩ := block_facts (unhide KO9)
  generalize hT : recP N kp 2 3 q0 q1 q2 q3 0 = T at *
  have HT := hide hT
  clear hT
  have hsz9 : w3.heap.size ≤ W9.heap.size := by omega
  go_region_law ((first | (refine step_write rfl (.tmp 45) (.tmp 50) rfl w3.heap.size (.slice ao4 cn cap4) (spreadG pgs cn im) (P, T) _ (by rfl) (by rfl) (by simp) (by simp) (by rw [HLc.out]; exact (unhide HOB).alloc _) (by rw [HLc.out]; omega) (by simp; omega) ?_; intro v5 w5 hown5 hbel5 hsz5; have hB5 := hbel5 wB ((Below.refl _ _).alloc (by omega) _); obtain ⟨ao5, cap5, hv5, -⟩ := (holdsRow_own hown5).shape; subst hv5; have kO5 := (hB5.block w2.heap.size (by omega)).trans (unhide KOB); obtain ⟨hxO5, hfO5⟩ := block_facts kO5) | (go_simp; go_at_call 196; refine (unhide HTR _).mono ?_; rintro e wA ⟨rfl, hbA⟩; have KOA := hide (kept_block hbA (drew_block (unhide KO9))); have HOA := hide (ownsRow_below (World.ownsRow.drew (unhide HO9)) hbA); have hsA := hbA.size; simp at hsA; obtain ⟨hxOA, hfOA⟩ := block_facts (unhide KOA)) | (go_simp; go_at_call 75; refine (unhide HW _).mono ?_; rintro e wB ⟨rfl, hbB⟩; have KOB := hide (kept_block hbB (unhide KOA)); have HOB := hide (ownsRow_below (unhide HOA) hbB); have hsB := hbB.size; have lB : w2.heap.size < wB.heap.size := (by omega); have nB : ¬ w2.heap.size = wB.heap.size := (by omega); obtain ⟨hxOB, hfOB⟩ := block_facts (unhide KOB))))
  all_goals
    obtain ⟨hx3, hf3⟩ := block_facts ((hB5.block (w.heap.size + 1 + 1) (by omega)).trans (kept_block hbB (kept_block hbA (drew_block (unhide K39)))))
    have HB : Hid (Below w.heap.size w w5) := (bvia hbB (by omega) (bvia hbA (by simp; omega) ((unhide HB9).drew))).trans (hB5.mono (by omega))
    have HO5 := hide hown5
    have hs5 : w3.heap.size < w5.heap.size := by simp at hsz5; omega
    clear hown5 hbel5 hB5 hbA hbB hx1 hf1 hxS hfS hxO hfO hxOA hfOA hxOB hfOB kO5 HBT HOT HSP HNE HTR HW
    have l5 : w.heap.size + 1 + 1 < w5.heap.size := by omega
    have n5 : ¬ w.heap.size + 1 + 1 = w2.heap.size := by omega
    have n6 : ¬ w2.heap.size = w.heap.size + 1 + 1 := by omega
    go_wp2
    refine bodyPost_ret (v := outV (.slice ao5 ((spreadG pgs cn im).length + 1) cap5) on wait next 0 0 ⟨#[]⟩ (-1)) (by simp [results, Tryz.results185, go_sem, hx3]) rfl ?_
    rw [HKK.out, HPG.out, HCN.out, HN.out, HP.out, HT.out]
    refine ⟨ao5, cap5, by rw [List.length_append]; rfl, ?_, ?_⟩
    · refine ownsRow_base (base' := w3.heap.size) ?_ (by omega)
      repeat (first | with_reducible refine World.ownsRow.alloc ?_ _ | (with_reducible refine oset ?_ ?_; (focus omega)))
      exact unhide HO5
    · repeat (first | with_reducible exact unhide HB | with_reducible exact Below.refl _ _ | with_reducible refine bdrew ?_ | (with_reducible refine brow ?_ ?_; (focus (first | omega | (simp; done) | (simp; omega)))) | (with_reducible refine bset ?_ ?_; (focus (first | omega | (simp; done) | (simp; omega)))) | (with_reducible refine balloc ?_ ?_; (focus (first | omega | (simp; done) | (simp; omega)))) | (with_reducible refine bvia (unhide HB1) ?_ ?_; (focus (first | omega | (simp; done) | (simp; omega)))) | (with_reducible refine bvia (unhide HB2) ?_ ?_; (focus (first | omega | (simp; done) | (simp; omega)))) | (with_reducible refine bvia (unhide HB3) ?_ ?_; (focus (first | omega | (simp; done) | (simp; omega)))) | (with_reducible refine bvia (unhide HB4) ?_ ?_; (focus (first | omega | (simp; done) | (simp; omega)))) | (with_reducible refine bvia (unhide HB5) ?_ ?_; (focus (first | omega | (simp; done) | (simp; omega)))) | (with_reducible refine bvia (unhide HB6) ?_ ?_; (focus (first | omega | (simp; done) | (simp; omega)))))
end
end Go.Proofs.YtjfmiomopfjecabGreat

/- A tick while chunks come. -/
namespace Go.Proofs.YtjfmiomopfjecabGreat
open Go.RowKit Go.Lib

section
variable {pg num kp ph tr s0 v0 s1 v1 th : Nat} {w : World} {b : Nat} {t : TypeId} {key : ByteArray} {F : Nat → Nat} {on : Bool} {wait next age : Nat}
set_option maxRecDepth 10000 in
set_option maxHeartbeats 1000000 in
theorem rawFetch_install (hd : DevAt w b t key F on wait next age) (hF : ∀ j, F j < 256) {at_ : Nat} (hs : M.sealX (M.mf F) = some at_) (hth : th < 256) (hall : ∀ j, j < M.chunksN (M.mf F 4) → th / 2 ^ j % 2 = 1)
    (wait' next' age' : Nat) (err : Int) (text : ByteArray) (ask : Int) (l : List GW)
    (hin : ∀ (W : World) (ao : Option Addr) (n cap : Nat) (_ : DevAt W b t key F on wait next age), Calls Tryz.prog 185 #[.pointer (some ⟨b, 0, none⟩), recV pg num kp ph tr s0 v0 s1 v1 th, manOf (M.mf F) (.slice ao n cap)] W fun e w' => OutRaw W on wait' next' age' err text ask l e w') :
    Calls Tryz.prog 159 #[.pointer (some ⟨b, 0, none⟩), recV pg num kp ph tr s0 v0 s1 v1 th] w fun e w' => OutRaw w on wait' next' age' err text ask l e w' := by
  have HD := hide hd
  have hle := M.sealX_le hs
  have HM := hide (fun (W : World) (hW : DevAt W b t key F on wait next age) => devManifest_any hW hF hs)
  have HCH := hide (fun (W : World) (v : Value) => manChunks_any (M.numAt (M.mf F) 0) (M.numAt (M.mf F) 2) (M.numAt (M.mf F) 6) (M.mf F 5) (M.mf F 4) v (M.exB (M.mf F)) (M.exQ (M.mf F)) (M.exA (M.mf F)) W (by omega))
  have HWN := hide (fun W => recWanted_none pg num kp ph tr s0 v0 s1 v1 th (M.chunksN (M.mf F 4)) W hth hle.2.2.2.2.2.2 hall)
  have HIN := hide hin
  clear hd hs hle hall hin
  generalize M.chunksN (M.mf F 4) = c at *
  unfold manOf at *
  generalize M.numAt (M.mf F) 0 = a0 at *
  generalize M.numAt (M.mf F) 2 = a2 at *
  generalize M.numAt (M.mf F) 6 = a6 at *
  generalize M.mf F 4 = a4 at *
  generalize M.mf F 5 = a5 at *
  generalize M.exB (M.mf F) = x1 at *
  generalize M.exQ (M.mf F) = x2 at *
  generalize M.exA (M.mf F) = x3 at *
  go_enter Tryz.func159, Tryz.ntmps159
  go_wp2_with fail
  refine (unhide HM _ (((unhide HD).alloc _).alloc _)).mono ?_
  rintro e w1 ⟨ao, cap, rfl, hown, hb1⟩
  clear hown
  obtain ⟨k1, k2, hs1, hb⟩ := blk2 hb1
  have HD1 := hide ((((unhide HD).alloc _).alloc _).kept hb1)
  have K1 := hide k1
  have K2 := hide k2
  have HB1 := hide hb
  clear hb hb1 k1 k2
  go_wp2_with fail
  have rule1 : ∀ (X : World) (o : Nat), X.heap[w.heap.size]? = some (.cells #[.int .i64 pg, .int .i64 num, .int .i64 kp, .int .i64 ph, .int .i64 tr, .int .i64 s0, .int .i64 v0, .int .i64 s1, .int .i64 v1, .int .i64 th] 133 (0, 0)) → X.cell? ⟨w.heap.size, o, none⟩ = (#[.int .i64 pg, .int .i64 num, .int .i64 kp, .int .i64 ph, .int .i64 tr, .int .i64 s0, .int .i64 v0, .int .i64 s1, .int .i64 v1, .int .i64 th] : Array Value)[o]? := fun X o h => cell_in h o
  have rule2 : ∀ (X : World) (o : Nat), X.heap[w1.heap.size]? = some (.cells (manC a0 a2 a4 a5 a6 (.slice ao c cap) x1 x2 x3) 143 (0, 0)) → X.cell? ⟨w1.heap.size, o, none⟩ = (manC a0 a2 a4 a5 a6 (.slice ao c cap) x1 x2 x3)[o]? := fun X o h => cell_in h o
  go_region_held3 (fun X => X.heap[w.heap.size]? = some (.cells #[.int .i64 pg, .int .i64 num, .int .i64 kp, .int .i64 ph, .int .i64 tr, .int .i64 s0, .int .i64 v0, .int .i64 s1, .int .i64 v1, .int .i64 th] 133 (0, 0)) ∧ X.heap[w1.heap.size]? = some (.cells (manC a0 a2 a4 a5 a6 (.slice ao c cap) x1 x2 x3) 143 (0, 0))) (first | with_reducible exact ⟨hB1, hB2⟩ | with_reducible exact ⟨hA1, hA2⟩ | with_reducible exact ⟨drew_block (alloc_block (unhide K1) _), drew_block (last_block _ _ rfl)⟩) ((first | (go_at_call 85; refine (unhide HCH _ _).mono ?_; rintro e wA ⟨rfl, hbA⟩; have hA1 := kept_block hbA (drew_block (alloc_block (unhide K1) _)); have hA2 := kept_block hbA (drew_block (last_block _ _ rfl))) | (go_at_call 184; refine (unhide HWN _).mono ?_; rintro e wB ⟨rfl, hbB⟩; have hB1 := kept_block hbB hA1; have hB2 := kept_block hbB hA2)))
  have K2B := hide (kept_block hbB (kept_block hbA (drew_block (alloc_block (unhide K2) _))))
  have HDB := hide ((((((unhide HD1).alloc _).drew).kept hbA)).kept hbB)
  have hsA := hbA.size
  have hsB := hbB.size
  simp at hsA
  have HB4 := hide hbA
  have HB5 := hide hbB
  obtain ⟨hx1, hf1⟩ := block_facts hB1
  obtain ⟨hx2, hf2⟩ := block_facts hB2
  clear rule1 rule2 hA1 hA2 hB1 hB2 hbA hbB K1 K2 HD1 HCH HWN HM
  go_wp2_with fail
  refine (unhide HIN _ ao c cap (unhide HDB)).mono ?_
  rintro e w3 ⟨ao3, cap3, rfl, hown, hb3⟩
  obtain ⟨hx3, hf3⟩ := block_facts (kept_block hb3 (unhide K2B))
  have hs3 := hb3.size
  have HO := hide hown
  have HB6 := hide hb3
  clear hown hb3 hx1 hf1 hx2 hf2
  generalize hn : l.length = n at *
  have HN := hide hn
  clear hn
  have l3 : w.heap.size + 1 < w3.heap.size := (by omega); have n3 : ¬ w.heap.size + 1 = w3.heap.size := (by omega)
  go_wp2
  refine bodyPost_ret (v := outV (.slice ao3 n cap3) on wait' next' age' err text ask) (by simp [results, Tryz.results159, go_sem, hx3]) rfl ?_
  refine ⟨ao3, cap3, by rw [HN.out], ?_, ?_⟩
  · rw [HN.out]
    refine ownsRow_base (base' := wB.heap.size) ?_ (by omega)
    repeat (with_reducible refine oset ?_ ?_; (focus omega))
    exact unhide HO
  · repeat (first | with_reducible exact unhide HB | with_reducible exact Below.refl _ _ | with_reducible refine bdrew ?_ | (with_reducible refine brow ?_ ?_; (focus (first | omega | (simp; done) | (simp; omega)))) | (with_reducible refine bset ?_ ?_; (focus (first | omega | (simp; done) | (simp; omega)))) | (with_reducible refine balloc ?_ ?_; (focus (first | omega | (simp; done) | (simp; omega)))) | (with_reducible refine bvia (unhide HB1) ?_ ?_; (focus (first | omega | (simp; done) | (simp; omega)))) | (with_reducible refine bvia (unhide HB2) ?_ ?_; (focus (first | omega | (simp; done) | (simp; omega)))) | (with_reducible refine bvia (unhide HB3) ?_ ?_; (focus (first | omega | (simp; done) | (simp; omega)))) | (with_reducible refine bvia (unhide HB4) ?_ ?_; (focus (first | omega | (simp; done) | (simp; omega)))) | (with_reducible refine bvia (unhide HB5) ?_ ?_; (focus (first | omega | (simp; done) | (simp; omega)))) | (with_reducible refine bvia (unhide HB6) ?_ ?_; (focus (first | omega | (simp; done) | (simp; omega)))))
set_option maxRecDepth 10000 in
set_option maxHeartbeats 2000000 in
theorem rawFetch_ask (hd : DevAt w b t key F on wait next age) (hF : ∀ j, F j < 256) {at_ : Nat} (hs : M.sealX (M.mf F) = some at_) (hth : th < 256) (i : Nat) (hi : i < M.chunksN (M.mf F 4)) (hno : th / 2 ^ i % 2 = 0) (hall : ∀ j, j < i → th / 2 ^ j % 2 = 1) (hw8 : wait ≤ 1000) (hn8 : next ≤ 1000) :
    Calls Tryz.prog 159 #[.pointer (some ⟨b, 0, none⟩), recV pg num kp ph tr s0 v0 s1 v1 th] w fun e w' => OutRaw w on (if wait ≤ 1 then next else wait - 1) (if wait ≤ 1 then min 8 (2 * next) else next) age 0 ⟨#[]⟩ (if wait ≤ 1 then (i : Int) else -1) [] e w' := by
  have HD := hide hd
  have hle := M.sealX_le hs
  have HM := hide (fun (W : World) (hW : DevAt W b t key F on wait next age) => devManifest_any hW hF hs)
  have HCH := hide (fun (W : World) (v : Value) => manChunks_any (M.numAt (M.mf F) 0) (M.numAt (M.mf F) 2) (M.numAt (M.mf F) 6) (M.mf F 5) (M.mf F 4) v (M.exB (M.mf F)) (M.exQ (M.mf F)) (M.exA (M.mf F)) W (by omega))
  have HWN := hide (fun W => recWanted_some pg num kp ph tr s0 v0 s1 v1 th (M.chunksN (M.mf F 4)) i W hth hle.2.2.2.2.2.2 hi hno hall)
  clear hd hs hle hall hno
  generalize M.chunksN (M.mf F 4) = c at *
  unfold manOf at *
  generalize M.numAt (M.mf F) 0 = a0 at *
  generalize M.numAt (M.mf F) 2 = a2 at *
  generalize M.numAt (M.mf F) 6 = a6 at *
  generalize M.mf F 4 = a4 at *
  generalize M.mf F 5 = a5 at *
  generalize M.exB (M.mf F) = x1 at *
  generalize M.exQ (M.mf F) = x2 at *
  generalize M.exA (M.mf F) = x3 at *
  go_enter Tryz.func159, Tryz.ntmps159
  go_wp2_with fail
  refine (unhide HM _ (((unhide HD).alloc _).alloc _)).mono ?_
  rintro e w1 ⟨ao, cap, rfl, hown, hb1⟩
  clear hown
  obtain ⟨k1, k2, hs1, hb⟩ := blk2 hb1
  have HD1 := hide ((((unhide HD).alloc _).alloc _).kept hb1)
  have K1 := hide k1
  have K2 := hide k2
  have HB1 := hide hb
  clear hb hb1 k1 k2
  go_wp2_with fail
  have rule1 : ∀ (X : World) (o : Nat), X.heap[w.heap.size]? = some (.cells #[.int .i64 pg, .int .i64 num, .int .i64 kp, .int .i64 ph, .int .i64 tr, .int .i64 s0, .int .i64 v0, .int .i64 s1, .int .i64 v1, .int .i64 th] 133 (0, 0)) → X.cell? ⟨w.heap.size, o, none⟩ = (#[.int .i64 pg, .int .i64 num, .int .i64 kp, .int .i64 ph, .int .i64 tr, .int .i64 s0, .int .i64 v0, .int .i64 s1, .int .i64 v1, .int .i64 th] : Array Value)[o]? := fun X o h => cell_in h o
  have rule2 : ∀ (X : World) (o : Nat), X.heap[w1.heap.size]? = some (.cells (manC a0 a2 a4 a5 a6 (.slice ao c cap) x1 x2 x3) 143 (0, 0)) → X.cell? ⟨w1.heap.size, o, none⟩ = (manC a0 a2 a4 a5 a6 (.slice ao c cap) x1 x2 x3)[o]? := fun X o h => cell_in h o
  go_region_held3 (fun X => X.heap[w.heap.size]? = some (.cells #[.int .i64 pg, .int .i64 num, .int .i64 kp, .int .i64 ph, .int .i64 tr, .int .i64 s0, .int .i64 v0, .int .i64 s1, .int .i64 v1, .int .i64 th] 133 (0, 0)) ∧ X.heap[w1.heap.size]? = some (.cells (manC a0 a2 a4 a5 a6 (.slice ao c cap) x1 x2 x3) 143 (0, 0))) (first | with_reducible exact ⟨hB1, hB2⟩ | with_reducible exact ⟨hA1, hA2⟩ | with_reducible exact ⟨drew_block (alloc_block (unhide K1) _), drew_block (last_block _ _ rfl)⟩) ((first | (go_at_call 85; refine (unhide HCH _ _).mono ?_; rintro e wA ⟨rfl, hbA⟩; have hA1 := kept_block hbA (drew_block (alloc_block (unhide K1) _)); have hA2 := kept_block hbA (drew_block (last_block _ _ rfl))) | (go_at_call 184; refine (unhide HWN _).mono ?_; rintro e wB ⟨rfl, hbB⟩; have hB1 := kept_block hbB hA1; have hB2 := kept_block hbB hA2)))
  have K2B := hide (kept_block hbB (kept_block hbA (drew_block (alloc_block (unhide K2) _))))
  have HDB := hide ((((((unhide HD1).alloc _).drew).kept hbA)).kept hbB)
  have hsA := hbA.size
  have hsB := hbB.size
  simp at hsA
  have HB4 := hide hbA
  have HB5 := hide hbB
  clear rule1 rule2 hA1 hA2 hB1 hB2 hbA hbB K1 K2 HD1 HCH HWN HM
  have hi0 : ¬ (i : Int) < 0 := by omega
  go_wp2_with fail
  refine (devStill_any (unhide HDB)).mono ?_
  rintro e w3 ⟨rfl, hb3⟩
  obtain ⟨hx3, hf3⟩ := block_facts (kept_block hb3 (unhide K2B))
  have hs3 := hb3.size
  have HB6 := hide hb3
  clear hb3
  have l3 : w.heap.size + 1 < w3.heap.size := (by omega); have n3 : ¬ w.heap.size + 1 = w3.heap.size := (by omega)
  have HB0 : Hid (Below w.heap.size w w3) := by
    show Below _ _ _
    repeat (first | with_reducible exact unhide HB | with_reducible exact Below.refl _ _ | with_reducible refine bdrew ?_ | (with_reducible refine brow ?_ ?_; (focus (first | omega | (simp; done) | (simp; omega)))) | (with_reducible refine bset ?_ ?_; (focus (first | omega | (simp; done) | (simp; omega)))) | (with_reducible refine balloc ?_ ?_; (focus (first | omega | (simp; done) | (simp; omega)))) | (with_reducible refine bvia (unhide HB1) ?_ ?_; (focus (first | omega | (simp; done) | (simp; omega)))) | (with_reducible refine bvia (unhide HB2) ?_ ?_; (focus (first | omega | (simp; done) | (simp; omega)))) | (with_reducible refine bvia (unhide HB3) ?_ ?_; (focus (first | omega | (simp; done) | (simp; omega)))) | (with_reducible refine bvia (unhide HB4) ?_ ?_; (focus (first | omega | (simp; done) | (simp; omega)))) | (with_reducible refine bvia (unhide HB5) ?_ ?_; (focus (first | omega | (simp; done) | (simp; omega)))) | (with_reducible refine bvia (unhide HB6) ?_ ?_; (focus (first | omega | (simp; done) | (simp; omega)))))
  clear HB1 HB4 HB5 HB6
  have HB := HB0
  clear HB0
  by_cases h0 : wait = 0
  · subst h0
    go_wp2_with fail
    refine (devLonger_any next _ hn8).mono ?_
    rintro e w' ⟨rfl, rfl⟩
    generalize hm : min 8 (2 * next) = nx at *
    have HM := hide hm
    clear hm
    go_wp2
    refine bodyPost_ret (v := outV (.slice none 0 0) on next nx age 0 ⟨#[]⟩ i) (by simp [results, Tryz.results159, go_sem, hx3, l3]) rfl (raw_none (by rw [HM.out]) ?_)
    repeat (first | with_reducible exact unhide HB | with_reducible exact Below.refl _ _ | with_reducible refine bdrew ?_ | (with_reducible refine brow ?_ ?_; (focus (first | omega | (simp; done) | (simp; omega)))) | (with_reducible refine bset ?_ ?_; (focus (first | omega | (simp; done) | (simp; omega)))) | (with_reducible refine balloc ?_ ?_; (focus (first | omega | (simp; done) | (simp; omega)))) | (with_reducible refine bvia (unhide HB1) ?_ ?_; (focus (first | omega | (simp; done) | (simp; omega)))) | (with_reducible refine bvia (unhide HB2) ?_ ?_; (focus (first | omega | (simp; done) | (simp; omega)))) | (with_reducible refine bvia (unhide HB3) ?_ ?_; (focus (first | omega | (simp; done) | (simp; omega)))) | (with_reducible refine bvia (unhide HB4) ?_ ?_; (focus (first | omega | (simp; done) | (simp; omega)))) | (with_reducible refine bvia (unhide HB5) ?_ ?_; (focus (first | omega | (simp; done) | (simp; omega)))) | (with_reducible refine bvia (unhide HB6) ?_ ?_; (focus (first | omega | (simp; done) | (simp; omega)))))
  by_cases h1 : wait = 1
  · subst h1
    go_wp2_with fail
    refine (devLonger_any next _ hn8).mono ?_
    rintro e w' ⟨rfl, rfl⟩
    generalize hm : min 8 (2 * next) = nx at *
    have HM := hide hm
    clear hm
    go_wp2
    refine bodyPost_ret (v := outV (.slice none 0 0) on next nx age 0 ⟨#[]⟩ i) (by simp [results, Tryz.results159, go_sem, hx3, l3]) rfl (raw_none (by rw [HM.out]) ?_)
    repeat (first | with_reducible exact unhide HB | with_reducible exact Below.refl _ _ | with_reducible refine bdrew ?_ | (with_reducible refine brow ?_ ?_; (focus (first | omega | (simp; done) | (simp; omega)))) | (with_reducible refine bset ?_ ?_; (focus (first | omega | (simp; done) | (simp; omega)))) | (with_reducible refine balloc ?_ ?_; (focus (first | omega | (simp; done) | (simp; omega)))) | (with_reducible refine bvia (unhide HB1) ?_ ?_; (focus (first | omega | (simp; done) | (simp; omega)))) | (with_reducible refine bvia (unhide HB2) ?_ ?_; (focus (first | omega | (simp; done) | (simp; omega)))) | (with_reducible refine bvia (unhide HB3) ?_ ?_; (focus (first | omega | (simp; done) | (simp; omega)))) | (with_reducible refine bvia (unhide HB4) ?_ ?_; (focus (first | omega | (simp; done) | (simp; omega)))) | (with_reducible refine bvia (unhide HB5) ?_ ?_; (focus (first | omega | (simp; done) | (simp; omega)))) | (with_reducible refine bvia (unhide HB6) ?_ ?_; (focus (first | omega | (simp; done) | (simp; omega)))))
  have h2 : (0 : Int) < (wait : Int) := by omega
  have h3 : (0 : Int) < (wait : Int) - 1 := by omega
  go_wp2
  refine bodyPost_ret (v := outV (.slice none 0 0) on ((wait : Int) - 1) next age 0 ⟨#[]⟩ (-1)) (by simp [results, Tryz.results159, go_sem, hx3, l3]) rfl (raw_none (by rw [show ((wait - 1 : Nat) : Int) = (wait : Int) - 1 from by omega]) ?_)
  repeat (first | with_reducible exact unhide HB | with_reducible exact Below.refl _ _ | with_reducible refine bdrew ?_ | (with_reducible refine brow ?_ ?_; (focus (first | omega | (simp; done) | (simp; omega)))) | (with_reducible refine bset ?_ ?_; (focus (first | omega | (simp; done) | (simp; omega)))) | (with_reducible refine balloc ?_ ?_; (focus (first | omega | (simp; done) | (simp; omega)))) | (with_reducible refine bvia (unhide HB1) ?_ ?_; (focus (first | omega | (simp; done) | (simp; omega)))) | (with_reducible refine bvia (unhide HB2) ?_ ?_; (focus (first | omega | (simp; done) | (simp; omega)))) | (with_reducible refine bvia (unhide HB3) ?_ ?_; (focus (first | omega | (simp; done) | (simp; omega)))) | (with_reducible refine bvia (unhide HB4) ?_ ?_; (focus (first | omega | (simp; done) | (simp; omega)))) | (with_reducible refine bvia (unhide HB5) ?_ ?_; (focus (first | omega | (simp; done) | (simp; omega)))) | (with_reducible refine bvia (unhide HB6) ?_ ?_; (focus (first | omega | (simp; done) | (simp; omega)))))
set_option maxRecDepth 10000 in
set_option maxHeartbeats 1000000 in
theorem rawTick (hd : DevAt w b t key F on wait next age) (wait' next' age' : Nat) (err : Int) (text : ByteArray) (ask : Int) (l : List GW)
    (h2 : ph = 2 → ∀ (W : World) (_ : DevAt W b t key F on wait next age), Calls Tryz.prog 158 #[.pointer (some ⟨b, 0, none⟩), recV pg num kp ph tr s0 v0 s1 v1 th] W fun e w' => OutRaw W on wait' next' age' err text ask l e w')
    (h1 : ph = 1 → ∀ (W : World) (_ : DevAt W b t key F on wait next age), Calls Tryz.prog 159 #[.pointer (some ⟨b, 0, none⟩), recV pg num kp ph tr s0 v0 s1 v1 th] W fun e w' => OutRaw W on wait' next' age' err text ask l e w')
    (h0 : ph ≠ 2 → ph ≠ 1 → wait' = wait ∧ next' = next ∧ age' = age ∧ err = 0 ∧ text = ⟨#[]⟩ ∧ ask = -1 ∧ l = []) :
    Calls Tryz.prog 133 #[.pointer (some ⟨b, 0, none⟩), recV pg num kp ph tr s0 v0 s1 v1 th] w fun e w' => OutRaw w on wait' next' age' err text ask l e w' := by
  have HD := hide hd
  clear hd
  by_cases hp2 : ph = 2
  · have HX := hide (h2 hp2)
    have g2 : (ph : Int) = 2 := by omega
    clear h0 h1 h2
    subst hp2
    go_enter Tryz.func133, Tryz.ntmps133
    go_wp2_with fail
    refine (unhide HX _ (((unhide HD).alloc _).alloc _)).mono ?_
    rintro e w1 ⟨ao, cap, rfl, hown, hb1⟩
    obtain ⟨k1, k2, hs1, hb⟩ := blk2 hb1
    obtain ⟨hx2, hf2⟩ := block_facts k2
    have HO := hide hown
    have HB := hide hb
    clear hb hb1 k1 k2 hown
    generalize hn : l.length = n at *
    have HN := hide hn
    clear hn
    have l2 : w.heap.size + 1 < w1.heap.size := (by omega); have n2 : ¬ w.heap.size + 1 = w1.heap.size := (by omega)
    go_wp2
    refine bodyPost_ret (v := outV (.slice ao n cap) on wait' next' age' err text ask) (by simp [results, Tryz.results133, go_sem, hx2]) rfl ⟨ao, cap, by rw [HN.out], ?_, ?_⟩
    · rw [HN.out]
      refine ownsRow_base (base' := w.heap.size + 1 + 1) ?_ (by omega)
      repeat (with_reducible refine oset ?_ ?_; (focus omega))
      have := unhide HO
      simpa using this
    · repeat (first | with_reducible exact unhide HB | with_reducible exact Below.refl _ _ | with_reducible refine bdrew ?_ | (with_reducible refine brow ?_ ?_; (focus (first | omega | (simp; done) | (simp; omega)))) | (with_reducible refine bset ?_ ?_; (focus (first | omega | (simp; done) | (simp; omega)))) | (with_reducible refine balloc ?_ ?_; (focus (first | omega | (simp; done) | (simp; omega)))) | (with_reducible refine bvia (unhide HB1) ?_ ?_; (focus (first | omega | (simp; done) | (simp; omega)))) | (with_reducible refine bvia (unhide HB2) ?_ ?_; (focus (first | omega | (simp; done) | (simp; omega)))) | (with_reducible refine bvia (unhide HB3) ?_ ?_; (focus (first | omega | (simp; done) | (simp; omega)))) | (with_reducible refine bvia (unhide HB4) ?_ ?_; (focus (first | omega | (simp; done) | (simp; omega)))) | (with_reducible refine bvia (unhide HB5) ?_ ?_; (focus (first | omega | (simp; done) | (simp; omega)))) | (with_reducible refine bvia (unhide HB6) ?_ ?_; (focus (first | omega | (simp; done) | (simp; omega)))))
  · have g2 : ¬ (ph : Int) = 2 := by omega
    by_cases hp1 : ph = 1
    · have HX := hide (h1 hp1)
      clear h0 h1 h2
      subst hp1
      go_enter Tryz.func133, Tryz.ntmps133
      go_wp2_with fail
      refine (unhide HX _ (((unhide HD).alloc _).alloc _)).mono ?_
      rintro e w1 ⟨ao, cap, rfl, hown, hb1⟩
      obtain ⟨k1, k2, hs1, hb⟩ := blk2 hb1
      obtain ⟨hx2, hf2⟩ := block_facts k2
      have HO := hide hown
      have HB := hide hb
      clear hb hb1 k1 k2 hown
      generalize hn : l.length = n at *
      have HN := hide hn
      clear hn
      have l2 : w.heap.size + 1 < w1.heap.size := (by omega); have n2 : ¬ w.heap.size + 1 = w1.heap.size := (by omega)
      go_wp2
      refine bodyPost_ret (v := outV (.slice ao n cap) on wait' next' age' err text ask) (by simp [results, Tryz.results133, go_sem, hx2]) rfl ⟨ao, cap, by rw [HN.out], ?_, ?_⟩
      · rw [HN.out]
        refine ownsRow_base (base' := w.heap.size + 1 + 1) ?_ (by omega)
        repeat (with_reducible refine oset ?_ ?_; (focus omega))
        have := unhide HO
        simpa using this
      · repeat (first | with_reducible exact unhide HB | with_reducible exact Below.refl _ _ | with_reducible refine bdrew ?_ | (with_reducible refine brow ?_ ?_; (focus (first | omega | (simp; done) | (simp; omega)))) | (with_reducible refine bset ?_ ?_; (focus (first | omega | (simp; done) | (simp; omega)))) | (with_reducible refine balloc ?_ ?_; (focus (first | omega | (simp; done) | (simp; omega)))) | (with_reducible refine bvia (unhide HB1) ?_ ?_; (focus (first | omega | (simp; done) | (simp; omega)))) | (with_reducible refine bvia (unhide HB2) ?_ ?_; (focus (first | omega | (simp; done) | (simp; omega)))) | (with_reducible refine bvia (unhide HB3) ?_ ?_; (focus (first | omega | (simp; done) | (simp; omega)))) | (with_reducible refine bvia (unhide HB4) ?_ ?_; (focus (first | omega | (simp; done) | (simp; omega)))) | (with_reducible refine bvia (unhide HB5) ?_ ?_; (focus (first | omega | (simp; done) | (simp; omega)))) | (with_reducible refine bvia (unhide HB6) ?_ ?_; (focus (first | omega | (simp; done) | (simp; omega)))))
    · obtain ⟨rfl, rfl, rfl, rfl, rfl, rfl, rfl⟩ := h0 hp2 hp1
      have g1 : ¬ (ph : Int) = 1 := by omega
      clear h0 h1 h2
      go_enter Tryz.func133, Tryz.ntmps133
      go_wp2_with fail
      refine (devStill_any (((unhide HD).alloc _).alloc _)).mono ?_
      rintro e w1 ⟨rfl, hb1⟩
      obtain ⟨k1, k2, hs1, hb⟩ := blk2 hb1
      obtain ⟨hx2, hf2⟩ := block_facts k2
      have HB := hide hb
      clear hb hb1 k1 k2
      have l2 : w.heap.size + 1 < w1.heap.size := (by omega); have n2 : ¬ w.heap.size + 1 = w1.heap.size := (by omega)
      go_wp2
      refine bodyPost_ret (v := outV (.slice none 0 0) on wait' next' age' 0 ⟨#[]⟩ (-1)) (by simp [results, Tryz.results133, go_sem, hx2]) rfl (raw_none rfl ?_)
      repeat (first | with_reducible exact unhide HB | with_reducible exact Below.refl _ _ | with_reducible refine bdrew ?_ | (with_reducible refine brow ?_ ?_; (focus (first | omega | (simp; done) | (simp; omega)))) | (with_reducible refine bset ?_ ?_; (focus (first | omega | (simp; done) | (simp; omega)))) | (with_reducible refine balloc ?_ ?_; (focus (first | omega | (simp; done) | (simp; omega)))) | (with_reducible refine bvia (unhide HB1) ?_ ?_; (focus (first | omega | (simp; done) | (simp; omega)))) | (with_reducible refine bvia (unhide HB2) ?_ ?_; (focus (first | omega | (simp; done) | (simp; omega)))) | (with_reducible refine bvia (unhide HB3) ?_ ?_; (focus (first | omega | (simp; done) | (simp; omega)))) | (with_reducible refine bvia (unhide HB4) ?_ ?_; (focus (first | omega | (simp; done) | (simp; omega)))) | (with_reducible refine bvia (unhide HB5) ?_ ?_; (focus (first | omega | (simp; done) | (simp; omega)))) | (with_reducible refine bvia (unhide HB6) ?_ ?_; (focus (first | omega | (simp; done) | (simp; omega)))))
end
end Go.Proofs.YtjfmiomopfjecabGreat

/- A chunk comes. -/
namespace Go.Proofs.YtjfmiomopfjecabGreat
open Go.RowKit Go.Lib

section
variable {pg num kp ph tr s0 v0 s1 v1 th : Nat} {w : World} {b : Nat} {t : TypeId} {key : ByteArray} {F : Nat → Nat} {on : Bool} {wait next age : Nat}
set_option maxRecDepth 10000 in
theorem rawChunk_idle (hd : DevAt w b t key F on wait next age) (hp : ph ≠ 1) (i : Int) (s : ByteArray) :
    Calls Tryz.prog 136 #[.pointer (some ⟨b, 0, none⟩), recV pg num kp ph tr s0 v0 s1 v1 th, .int .i64 i, .string s] w fun e w' => OutRaw w on wait next age 12 ⟨#[]⟩ (-1) [] e w' := by
  have HD := hide hd
  have hp2 : ((ph : Int) != 1) = true := by simp; omega
  clear hd
  go_enter Tryz.func136, Tryz.ntmps136
  go_wp2_with fail
  refine (devFault_any (((unhide HD).alloc _).alloc _) 12).mono ?_
  rintro e w1 ⟨rfl, hb1⟩
  obtain ⟨k1, k2, hs1, hb⟩ := blk2 hb1
  obtain ⟨hx2, hf2⟩ := block_facts k2
  have HB := hide hb
  clear hb hb1 k1 k2
  have l2 : w.heap.size + 1 < w1.heap.size := (by omega); have n2 : ¬ w.heap.size + 1 = w1.heap.size := (by omega)
  go_wp2
  refine bodyPost_ret (v := outV (.slice none 0 0) on wait next age 12 ⟨#[]⟩ (-1)) (by simp [results, Tryz.results136, go_sem, hx2]) rfl (raw_none rfl ?_)
  repeat (first | with_reducible exact unhide HB | with_reducible exact Below.refl _ _ | with_reducible refine bdrew ?_ | (with_reducible refine brow ?_ ?_; (focus (first | omega | (simp; done) | (simp; omega)))) | (with_reducible refine bset ?_ ?_; (focus (first | omega | (simp; done) | (simp; omega)))) | (with_reducible refine balloc ?_ ?_; (focus (first | omega | (simp; done) | (simp; omega)))) | (with_reducible refine bvia (unhide HB1) ?_ ?_; (focus (first | omega | (simp; done) | (simp; omega)))) | (with_reducible refine bvia (unhide HB2) ?_ ?_; (focus (first | omega | (simp; done) | (simp; omega)))) | (with_reducible refine bvia (unhide HB3) ?_ ?_; (focus (first | omega | (simp; done) | (simp; omega)))) | (with_reducible refine bvia (unhide HB4) ?_ ?_; (focus (first | omega | (simp; done) | (simp; omega)))) | (with_reducible refine bvia (unhide HB5) ?_ ?_; (focus (first | omega | (simp; done) | (simp; omega)))) | (with_reducible refine bvia (unhide HB6) ?_ ?_; (focus (first | omega | (simp; done) | (simp; omega)))))
set_option maxRecDepth 10000 in
set_option maxHeartbeats 1000000 in
theorem rawChunk_no (hd : DevAt w b t key F on wait next age) (hF : ∀ j, F j < 256) {at_ : Nat} (hs : M.sealX (M.mf F) = some at_) (i : Int) (s : ByteArray) (hl : s.size ≤ maxLen) (ht : tellsB (M.mf F) i s = false) :
    Calls Tryz.prog 136 #[.pointer (some ⟨b, 0, none⟩), recV pg num kp 1 tr s0 v0 s1 v1 th, .int .i64 i, .string s] w fun e w' => OutRaw w on wait next age 14 ⟨#[]⟩ (-1) [] e w' := by
  have HD := hide hd
  have hle := M.sealX_le hs
  have HM := hide (fun (W : World) (hW : DevAt W b t key F on wait next age) => devManifest_any hW hF hs)
  have HT := hide (fun (W : World) ao cap hrow => manTells_any (M.mf F) ao cap i s W hle.2.2.1 hle.2.2.2.1 hl hrow)
  have HTF := hide ht
  clear hd hs hle ht
  go_enter Tryz.func136, Tryz.ntmps136
  go_wp2_with fail
  refine (unhide HM _ (((unhide HD).alloc _).alloc _)).mono ?_
  rintro e w1 ⟨ao, cap, rfl, hown, hb1⟩
  obtain ⟨k1, k2, hs1, hb⟩ := blk2 hb1
  have HD1 := hide ((((unhide HD).alloc _).alloc _).kept hb1)
  have K2 := hide k2
  have HB1 := hide hb
  have HO := hide (hown.alloc (.cells (manC (M.numAt (M.mf F) 0) (M.numAt (M.mf F) 2) (M.mf F 4) (M.mf F 5) (M.numAt (M.mf F) 6) (.slice ao (M.chunksN (M.mf F 4)) cap) (M.exB (M.mf F)) (M.exQ (M.mf F)) (M.exA (M.mf F))) 143))
  clear hb hb1 k1 k2 hown
  go_wp2_with fail
  refine (unhide HT _ ao cap (holdsRow_own (unhide HO))).mono ?_
  rintro e w2 ⟨rfl, hb2⟩
  rw [HTF.out]
  have HD2 := hide (((unhide HD1).alloc _).kept hb2)
  have K3 := hide (kept_block hb2 (alloc_block (unhide K2) _))
  have hs2 := hb2.size
  simp at hs2
  have HB2 := hide hb2
  clear hb2 HO HT
  go_wp2_with fail
  refine (devFault_any (unhide HD2) 14).mono ?_
  rintro e w3 ⟨rfl, hb3⟩
  obtain ⟨hx2, hf2⟩ := block_facts (kept_block hb3 (unhide K3))
  have hs3 := hb3.size
  have HB3 := hide hb3
  clear hb3
  have l2 : w.heap.size + 1 < w3.heap.size := (by omega); have n2 : ¬ w.heap.size + 1 = w3.heap.size := (by omega)
  go_wp2
  refine bodyPost_ret (v := outV (.slice none 0 0) on wait next age 14 ⟨#[]⟩ (-1)) (by simp [results, Tryz.results136, go_sem, hx2]) rfl (raw_none rfl ?_)
  repeat (first | with_reducible exact unhide HB | with_reducible exact Below.refl _ _ | with_reducible refine bdrew ?_ | (with_reducible refine brow ?_ ?_; (focus (first | omega | (simp; done) | (simp; omega)))) | (with_reducible refine bset ?_ ?_; (focus (first | omega | (simp; done) | (simp; omega)))) | (with_reducible refine balloc ?_ ?_; (focus (first | omega | (simp; done) | (simp; omega)))) | (with_reducible refine bvia (unhide HB1) ?_ ?_; (focus (first | omega | (simp; done) | (simp; omega)))) | (with_reducible refine bvia (unhide HB2) ?_ ?_; (focus (first | omega | (simp; done) | (simp; omega)))) | (with_reducible refine bvia (unhide HB3) ?_ ?_; (focus (first | omega | (simp; done) | (simp; omega)))) | (with_reducible refine bvia (unhide HB4) ?_ ?_; (focus (first | omega | (simp; done) | (simp; omega)))) | (with_reducible refine bvia (unhide HB5) ?_ ?_; (focus (first | omega | (simp; done) | (simp; omega)))) | (with_reducible refine bvia (unhide HB6) ?_ ?_; (focus (first | omega | (simp; done) | (simp; omega)))))
set_option maxRecDepth 10000 in
set_option maxHeartbeats 1000000 in
theorem rawChunk_has (hd : DevAt w b t key F on wait next age) (hF : ∀ j, F j < 256) {at_ : Nat} (hs : M.sealX (M.mf F) = some at_) (hth : th < 256) (i : Nat) (hi : i < 6) (s : ByteArray) (hl : s.size ≤ maxLen) (ht : tellsB (M.mf F) i s = true) (hh : th / 2 ^ i % 2 = 1) :
    Calls Tryz.prog 136 #[.pointer (some ⟨b, 0, none⟩), recV pg num kp 1 tr s0 v0 s1 v1 th, .int .i64 i, .string s] w fun e w' => OutRaw w on wait next age 0 ⟨#[]⟩ (-1) [] e w' := by
  have HD := hide hd
  have hle := M.sealX_le hs
  have HM := hide (fun (W : World) (hW : DevAt W b t key F on wait next age) => devManifest_any hW hF hs)
  have HT := hide (fun (W : World) ao cap hrow => manTells_any (M.mf F) ao cap i s W hle.2.2.1 hle.2.2.2.1 hl hrow)
  have HTF := hide ht
  have HHA := hide (fun W => recHas_any pg num kp 1 tr s0 v0 s1 v1 th i W hth hi)
  have HHB : Hid (decide (th / 2 ^ i % 2 = 1) = true) := decide_eq_true hh
  clear hd hs hle ht hh
  go_enter Tryz.func136, Tryz.ntmps136
  go_wp2_with fail
  refine (unhide HM _ (((unhide HD).alloc _).alloc _)).mono ?_
  rintro e w1 ⟨ao, cap, rfl, hown, hb1⟩
  obtain ⟨k1, k2, hs1, hb⟩ := blk2 hb1
  have HD1 := hide ((((unhide HD).alloc _).alloc _).kept hb1)
  have K1 := hide k1
  have K2 := hide k2
  have HB1 := hide hb
  have HO := hide (hown.alloc (.cells (manC (M.numAt (M.mf F) 0) (M.numAt (M.mf F) 2) (M.mf F 4) (M.mf F 5) (M.numAt (M.mf F) 6) (.slice ao (M.chunksN (M.mf F 4)) cap) (M.exB (M.mf F)) (M.exQ (M.mf F)) (M.exA (M.mf F))) 143))
  clear hb hb1 k1 k2 hown
  go_wp2_with fail
  refine (unhide HT _ ao cap (holdsRow_own (unhide HO))).mono ?_
  rintro e w2 ⟨rfl, hb2⟩
  rw [HTF.out]
  have HD2 := hide (((unhide HD1).alloc _).kept hb2)
  have k1 := kept_block hb2 (alloc_block (unhide K1) _)
  have K3 := hide (kept_block hb2 (alloc_block (unhide K2) _))
  obtain ⟨hx1, hf1⟩ := block_facts k1
  have hs2 := hb2.size
  simp at hs2
  have HB2 := hide hb2
  clear hb2 HO HT k1 K1 K2
  go_wp2_with fail
  refine (unhide HHA _).mono ?_
  rintro e w3 ⟨rfl, hb3⟩
  rw [HHB.out]
  have HD3 := hide ((unhide HD2).kept hb3)
  have K4 := hide (kept_block hb3 (unhide K3))
  have hs3 := hb3.size
  have HB3 := hide hb3
  clear hb3 hx1 hf1 HD2 K3
  go_wp2_with fail
  refine (devStill_any (unhide HD3)).mono ?_
  rintro e w4 ⟨rfl, hb4⟩
  obtain ⟨hx2, hf2⟩ := block_facts (kept_block hb4 (unhide K4))
  have hs4 := hb4.size
  have HB4 := hide hb4
  clear hb4
  have l2 : w.heap.size + 1 < w4.heap.size := (by omega); have n2 : ¬ w.heap.size + 1 = w4.heap.size := (by omega)
  go_wp2
  refine bodyPost_ret (v := outV (.slice none 0 0) on wait next age 0 ⟨#[]⟩ (-1)) (by simp [results, Tryz.results136, go_sem, hx2]) rfl (raw_none rfl ?_)
  repeat (first | with_reducible exact unhide HB | with_reducible exact Below.refl _ _ | with_reducible refine bdrew ?_ | (with_reducible refine brow ?_ ?_; (focus (first | omega | (simp; done) | (simp; omega)))) | (with_reducible refine bset ?_ ?_; (focus (first | omega | (simp; done) | (simp; omega)))) | (with_reducible refine balloc ?_ ?_; (focus (first | omega | (simp; done) | (simp; omega)))) | (with_reducible refine bvia (unhide HB1) ?_ ?_; (focus (first | omega | (simp; done) | (simp; omega)))) | (with_reducible refine bvia (unhide HB2) ?_ ?_; (focus (first | omega | (simp; done) | (simp; omega)))) | (with_reducible refine bvia (unhide HB3) ?_ ?_; (focus (first | omega | (simp; done) | (simp; omega)))) | (with_reducible refine bvia (unhide HB4) ?_ ?_; (focus (first | omega | (simp; done) | (simp; omega)))) | (with_reducible refine bvia (unhide HB5) ?_ ?_; (focus (first | omega | (simp; done) | (simp; omega)))) | (with_reducible refine bvia (unhide HB6) ?_ ?_; (focus (first | omega | (simp; done) | (simp; omega)))))
theorem own_two {W : World} {base g : Nat} {y z : GW} (hg : W.heap[g]? = some (.cells #[.int .i64 (y.1 : Int), .string y.2, .int .i64 (z.1 : Int), .string z.2] 136 (0, 0))) (hb : base ≤ g) : W.ownsRow base 136 2 (.slice (some ⟨g, 0, none⟩) 2 2) 2 (gwCells [y, z]) :=
  ⟨rfl, .inr ⟨g, 2, _, rfl, hb, hg, Nat.le_refl _, by unfold maxLen; omega, rfl, rfl⟩⟩
set_option maxRecDepth 10000 in
set_option maxHeartbeats 2000000 in
theorem rawChunk_new (hd : DevAt w b t key F on wait next age) (hF : ∀ j, F j < 256) {at_ : Nat} (hs : M.sealX (M.mf F) = some at_) (hr : RecOk pg num kp 1 tr s0 v0 s1 v1 th) (i : Nat) (hi : i < 6) (s : ByteArray) (hl : s.size ≤ maxLen) (ht : tellsB (M.mf F) i s = true) (hh : th / 2 ^ i % 2 ≠ 1) :
    Calls Tryz.prog 136 #[.pointer (some ⟨b, 0, none⟩), recV pg num kp 1 tr s0 v0 s1 v1 th, .int .i64 i, .string s] w fun e w' => OutRaw w on 0 1 age 0 ⟨#[]⟩ (-1) [(5 + i, s), (1 - pg, recP ((num + 1) % 256) kp 1 tr s0 v0 s1 v1 (th + 2 ^ i))] e w' := by
  have HD := hide hd
  have hle := M.sealX_le hs
  have hth := hr.2.2.2.2.2.2.2.2.2
  have HM := hide (fun (W : World) (hW : DevAt W b t key F on wait next age) => devManifest_any hW hF hs)
  have HT := hide (fun (W : World) ao cap hrow => manTells_any (M.mf F) ao cap i s W hle.2.2.1 hle.2.2.2.1 hl hrow)
  have HTF := hide ht
  have HHA := hide (fun W => recHas_any pg num kp 1 tr s0 v0 s1 v1 th i W hth hi)
  have HHB : Hid (decide (th / 2 ^ i % 2 = 1) = false) := decide_eq_false hh
  have HWI := hide (fun W => recWith_any pg num kp 1 tr s0 v0 s1 v1 th i W hr.1 hr.2.1 hth hi hh)
  have HW := hide (fun W => written_ok (next_ok (p := 1) (q := tr) (k := kp) (t := th + 2 ^ i) hr (by omega) hr.2.2.2.2.1 hr.2.2.1 (M.bit_lt hth hi hh)) W)
  clear hd hs hle ht hh hr hth
  go_enter Tryz.func136, Tryz.ntmps136
  go_wp2_with fail
  refine (unhide HM _ (((unhide HD).alloc _).alloc _)).mono ?_
  rintro e w1 ⟨ao, cap, rfl, hown, hb1⟩
  obtain ⟨k1, k2, hs1, hb⟩ := blk2 hb1
  have HD1 := hide ((((unhide HD).alloc _).alloc _).kept hb1)
  have K1 := hide k1
  have K2 := hide k2
  have HB1 := hide hb
  have HO := hide (hown.alloc (.cells (manC (M.numAt (M.mf F) 0) (M.numAt (M.mf F) 2) (M.mf F 4) (M.mf F 5) (M.numAt (M.mf F) 6) (.slice ao (M.chunksN (M.mf F 4)) cap) (M.exB (M.mf F)) (M.exQ (M.mf F)) (M.exA (M.mf F))) 143))
  clear hb hb1 k1 k2 hown
  go_wp2_with fail
  refine (unhide HT _ ao cap (holdsRow_own (unhide HO))).mono ?_
  rintro e w2 ⟨rfl, hb2⟩
  rw [HTF.out]
  have HD2 := hide (((unhide HD1).alloc _).kept hb2)
  have k1 := kept_block hb2 (alloc_block (unhide K1) _)
  have K3 := hide (kept_block hb2 (alloc_block (unhide K2) _))
  obtain ⟨hx1, hf1⟩ := block_facts k1
  have K1' := hide k1
  have hs2 := hb2.size
  simp at hs2
  have HB2 := hide hb2
  clear hb2 HO HT k1 K1 K2
  go_wp2_with fail
  refine (unhide HHA _).mono ?_
  rintro e w3 ⟨rfl, hb3⟩
  rw [HHB.out]
  have HD3 := hide ((unhide HD2).kept hb3)
  have K4 := hide (kept_block hb3 (unhide K3))
  have K5 := hide (kept_block hb3 (unhide K1'))
  have hs3 := hb3.size
  have HB3 : Hid (Below w.heap.size w w3) := by
    show Below _ _ _
    refine bvia hb3 (by omega) ?_
    repeat (first | with_reducible exact unhide HB | with_reducible exact Below.refl _ _ | with_reducible refine bdrew ?_ | (with_reducible refine brow ?_ ?_; (focus (first | omega | (simp; done) | (simp; omega)))) | (with_reducible refine bset ?_ ?_; (focus (first | omega | (simp; done) | (simp; omega)))) | (with_reducible refine balloc ?_ ?_; (focus (first | omega | (simp; done) | (simp; omega)))) | (with_reducible refine bvia (unhide HB1) ?_ ?_; (focus (first | omega | (simp; done) | (simp; omega)))) | (with_reducible refine bvia (unhide HB2) ?_ ?_; (focus (first | omega | (simp; done) | (simp; omega)))) | (with_reducible refine bvia (unhide HB3) ?_ ?_; (focus (first | omega | (simp; done) | (simp; omega)))) | (with_reducible refine bvia (unhide HB4) ?_ ?_; (focus (first | omega | (simp; done) | (simp; omega)))) | (with_reducible refine bvia (unhide HB5) ?_ ?_; (focus (first | omega | (simp; done) | (simp; omega)))) | (with_reducible refine bvia (unhide HB6) ?_ ?_; (focus (first | omega | (simp; done) | (simp; omega)))))
  clear hb3 hx1 hf1 HD2 K3 K1' HB1 HB2
  generalize hTB : th + 2 ^ i = TB at *
  have HTB := hide hTB
  clear hTB
  generalize hN : (num + 1) % 256 = N at *; generalize hP : 1 - pg = P at *; have HN := hide hN; have HP := hide hP; clear hN hP
  go_wp2_with fail
  have rule1 : ∀ (X : World) (o : Nat), X.heap[w.heap.size]? = some (.cells #[.int .i64 pg, .int .i64 num, .int .i64 kp, .int .i64 1, .int .i64 tr, .int .i64 s0, .int .i64 v0, .int .i64 s1, .int .i64 v1, .int .i64 th] 133 (0, 0)) → X.cell? ⟨w.heap.size, o, none⟩ = (#[.int .i64 pg, .int .i64 num, .int .i64 kp, .int .i64 1, .int .i64 tr, .int .i64 s0, .int .i64 v0, .int .i64 s1, .int .i64 v1, .int .i64 th] : Array Value)[o]? := fun X o h => cell_in h o
  have rule2 : ∀ (X : World) (o : Nat), X.heap[w3.heap.size]? = some (.cells #[.int .i64 (5 + (i : Int)), .string s] 136 (0, 0)) → X.cell? ⟨w3.heap.size, o, none⟩ = (#[.int .i64 (5 + (i : Int)), .string s] : Array Value)[o]? := fun X o h => cell_in h o
  go_region_held3 (fun X => X.heap[w.heap.size]? = some (.cells #[.int .i64 pg, .int .i64 num, .int .i64 kp, .int .i64 1, .int .i64 tr, .int .i64 s0, .int .i64 v0, .int .i64 s1, .int .i64 v1, .int .i64 th] 133 (0, 0)) ∧ X.heap[w3.heap.size]? = some (.cells #[.int .i64 (5 + (i : Int)), .string s] 136 (0, 0))) (first | with_reducible exact ⟨hC1, hC2⟩ | with_reducible exact ⟨hB1, hB2⟩ | with_reducible exact ⟨hA1, hA2⟩ | with_reducible exact ⟨alloc_block hB1 _, alloc_block hB2 _⟩ | with_reducible exact ⟨drew_block (alloc_block (unhide K5) _), drew_block (last_block _ _ rfl)⟩ | (refine ⟨?_, ?_⟩ <;> (repeat (first | with_reducible exact hC1 | with_reducible exact hC2 | (with_reducible refine sblk ?_ ?_; (focus omega)))))) ((first | (go_at_call 168; refine (unhide HWI _).mono ?_; rintro e wA ⟨rfl, hbA⟩; have hA1 := kept_block hbA (drew_block (alloc_block (unhide K5) _)); have hA2 := kept_block hbA (drew_block (last_block _ _ rfl))) | (go_at_call 75; refine (unhide HW _).mono ?_; rintro e wB ⟨rfl, hbB⟩; have hB1 := kept_block hbB hA1; have hB2 := kept_block hbB hA2) | (go_at_call 166; refine (devEager_any (((((((unhide HD3).alloc _).drew).kept hbA).kept hbB)).alloc _) (some ⟨wB.heap.size, 0, none⟩) 2 2).mono ?_; rintro e wC ⟨rfl, hbC⟩; have hC1 := kept_block hbC (alloc_block hB1 _); have hC2 := kept_block hbC (alloc_block hB2 _); obtain ⟨hx9, hf9⟩ := block_facts (kept_block hbC (alloc_block (kept_block hbB (kept_block hbA (drew_block (alloc_block (unhide K4) _)))) _)); have hsA := hbA.size; have hsB := hbB.size; have hsC := hbC.size; simp at hsA hsC)))
  have kT : wC.heap[wB.heap.size]? = some (.cells #[.int .i64 ((5 + i : Nat) : Int), .string s, .int .i64 P, .string (recP N kp 1 tr s0 v0 s1 v1 TB)] 136 (0, 0)) := by
    have h := kept_block hbC (last_block _ _ rfl)
    rw [show ((5 + i : Nat) : Int) = 5 + (i : Int) from by omega]
    exact h
  have KT := hide kT
  have HB := HB3
  have HB4 := hide hbA
  have HB5 := hide hbB
  have HB6 := hide hbC
  clear hbA hbB hbC hA1 hA2 hB1 hB2 hC1 hC2 rule1 rule2 kT HB3
  go_wp2
  refine bodyPost_ret (v := outV (.slice (some ⟨wB.heap.size, 0, none⟩) 2 2) on 0 1 age 0 ⟨#[]⟩ (-1)) (by simp [results, Tryz.results136, go_sem, hx9]) rfl ⟨some ⟨wB.heap.size, 0, none⟩, 2, rfl, ?_, ?_⟩
  · rw [HN.out, HP.out, HTB.out]
    refine own_two (y := (5 + i, s)) (z := (P, recP N kp 1 tr s0 v0 s1 v1 TB)) ?_ (by omega)
    dsimp only
    repeat (first | with_reducible exact unhide KT | (with_reducible refine lblk ?_; (focus (first | rfl | (simp; done)))) | with_reducible refine ablk ?_ | with_reducible refine drew_block ?_ | (with_reducible refine sblk ?_ ?_; (focus (first | omega | (simp; done) | (simp; omega)))))
  · repeat (first | with_reducible exact unhide HB | with_reducible exact Below.refl _ _ | with_reducible refine bdrew ?_ | (with_reducible refine brow ?_ ?_; (focus (first | omega | (simp; done) | (simp; omega)))) | (with_reducible refine bset ?_ ?_; (focus (first | omega | (simp; done) | (simp; omega)))) | (with_reducible refine balloc ?_ ?_; (focus (first | omega | (simp; done) | (simp; omega)))) | (with_reducible refine bvia (unhide HB1) ?_ ?_; (focus (first | omega | (simp; done) | (simp; omega)))) | (with_reducible refine bvia (unhide HB2) ?_ ?_; (focus (first | omega | (simp; done) | (simp; omega)))) | (with_reducible refine bvia (unhide HB3) ?_ ?_; (focus (first | omega | (simp; done) | (simp; omega)))) | (with_reducible refine bvia (unhide HB4) ?_ ?_; (focus (first | omega | (simp; done) | (simp; omega)))) | (with_reducible refine bvia (unhide HB5) ?_ ?_; (focus (first | omega | (simp; done) | (simp; omega)))) | (with_reducible refine bvia (unhide HB6) ?_ ?_; (focus (first | omega | (simp; done) | (simp; omega)))))
end
end Go.Proofs.YtjfmiomopfjecabGreat

/- Where no image is on trial there are no tries: whatever happens. -/
namespace Go.Proofs.YtjfmiomopfjecabGreat.M

def Tz (F : Nat → Nat) : Prop := fld F 2 ≠ 2 → fld F 3 = 0
def TStays (F : Nat → Nat) (l : List Wr) : Prop := ∀ c t, t ≤ 16 → Tz (cutAt F l c t)
theorem tz_nil {F : Nat → Nat} (h : Tz F) : TStays F [] := by
  intro c t _
  rw [cutAt_all (Nat.zero_le _)]
  exact h
theorem tz_record {F : Nat → Nat} {w N : Nat} (hr : RecIs F w N) (h : Tz F) (os : List Wr) (ho : ∀ x ∈ os, 2 ≤ x.1) {kept phase tries l0 l1 a b c d th : Nat} (hp : phase ≠ 2 → tries = 0) :
    TStays F (os ++ [noteW F 0 kept phase tries l0 l1 a b c d th]) := by
  intro k t ht
  rw [noteW_is hr]
  rcases cut_cases hr os ho kept phase tries l0 l1 a b c d th k t ht with e | e
  · rw [e]
    have hw := (all_written hr os ho kept phase tries l0 l1 a b c d th).2.1
    intro h2
    have e2 := hw 2 (by omega)
    have e3 := hw 3 (by omega)
    rw [e2] at h2
    rw [e3]
    exact hp h2
  · intro h2
    rw [e.2.1 2 (by omega)] at h2
    rw [e.2.1 3 (by omega)]
    exact h h2
theorem tz_note {F : Nat → Nat} {w N : Nat} (hr : RecIs F w N) (h : Tz F) {kept phase tries l0 l1 a b c d th : Nat} (hp : phase ≠ 2 → tries = 0) : TStays F [noteW F 0 kept phase tries l0 l1 a b c d th] :=
  tz_record hr h [] (fun x hx => by cases hx) hp
theorem tz_two {F : Nat → Nat} {x : Wr} {l : List Wr} (h1 : TStays F [x]) (h2 : TStays (put F x.1 x.2 16) l) : TStays F (x :: l) := by
  intro c t ht
  rw [cut_two]
  split
  · have := h1 0 t ht
    rw [cut_two] at this
    exact this
  · exact h2 _ t ht
theorem tz_offers {d : Dev} (h : Inv' d) (hz : Tz d.F) (s : ByteArray) : TStays d.F (offers d s).ws := by
  obtain ⟨⟨w, N, hr⟩, hg, _⟩ := h
  unfold offers
  by_cases e1 : fld d.F 2 = 2
  · rw [if_pos e1]; exact tz_nil hz
  rw [if_neg e1]
  by_cases e2 : isManifest d.key s = false
  · rw [if_pos e2]; exact tz_nil hz
  rw [if_neg e2]
  by_cases e3 : bz s 0 * 256 + bz s 1 ≤ keptV d.F ∨ bz s 2 * 256 + bz s 3 ≠ keptV d.F
  · rw [if_pos e3]; exact tz_nil hz
  rw [if_neg e3]
  have htr := hz e1
  have hin : ∀ x ∈ manPages s, 2 ≤ x.1 := fun x hx => (manPages_in hx).1
  by_cases e4 : fld d.F 2 = 1
  · rw [if_pos e4, if_pos e4]
    obtain ⟨hr1, hg1, hp1, q1, hn⟩ := after_same hr hg hg.tries
    have hs1 : TStays d.F [sameW d.F 0 0 (fld d.F 3)] := tz_note hr hz (fun _ => htr)
    have hS := hs1 1 16 (Nat.le_refl _)
    rw [cutAt_all (show [sameW d.F 0 0 (fld d.F 3)].length ≤ 1 from Nat.le_refl _)] at hS
    have h2 : TStays (puts d.F [sameW d.F 0 0 (fld d.F 3)]) (manPages s ++ [sameW (puts d.F [sameW d.F 0 0 (fld d.F 3)]) 0 1 (fld d.F 3)]) := tz_record hr1 hS (manPages s) hin (fun _ => htr)
    rw [← hn] at h2
    exact tz_two hs1 h2
  · rw [if_neg e4, if_neg e4]
    exact tz_record hr hz (manPages s) hin (fun _ => htr)
theorem tz_installs {d : Dev} (h : Inv' d) (hz : Tz d.F) (hp : fld d.F 2 = 1) : TStays d.F (installs d).ws := by
  obtain ⟨⟨w, N, hr⟩, hg, _⟩ := h
  have htr := hz (by omega)
  unfold installs
  by_cases e : (builtN d.F).1 ≠ 0
  · rw [if_pos e]
    exact tz_note hr hz (fun _ => htr)
  · rw [if_neg e]
    have hi := (built_ok (F := d.F) (by omega)).1
    have hsz := image_size hi
    have hin : ∀ x ∈ slotW (1 - fld d.F 1) (builtN d.F).2, 2 ≤ x.1 := fun x hx => by have := slotW_in (by omega) hx; omega
    show TStays d.F (slotW (1 - fld d.F 1) (builtN d.F).2 ++ [if 1 - fld d.F 1 = 0 then _ else _])
    split
    · exact tz_record hr hz _ hin (fun h => absurd rfl h)
    · exact tz_record hr hz _ hin (fun h => absurd rfl h)
theorem tz_planned {d : Dev} (h : Inv' d) (hz : Tz d.F) (e : Ev) : TStays d.F (planned d e).ws := by
  have h0 := h
  obtain ⟨⟨w, N, hr⟩, hg, _⟩ := h
  unfold planned
  split
  · exact tz_nil hz
  split
  · exact tz_nil hz
  split
  · exact tz_nil hz
  split
  · exact tz_nil hz
  split
  · show TStays d.F (if fld d.F 2 = 2 then (if fld d.F 3 = 0 then [sameW d.F 0 0 0] else [sameW d.F 0 2 (fld d.F 3 - 1)]) else [])
    split
    · split
      · exact tz_note hr hz (fun _ => rfl)
      · exact tz_note hr hz (fun h => absurd rfl h)
    · exact tz_nil hz
  split
  · unfold ticks
    by_cases e2 : fld d.F 2 = 2
    · rw [if_pos e2]
      show TStays d.F (if 5 ≤ d.age + 1 then [sameW d.F 0 0 0] else [])
      split
      · exact tz_note hr hz (fun _ => rfl)
      · exact tz_nil hz
    rw [if_neg e2]
    by_cases e1 : fld d.F 2 = 1
    · rw [if_pos e1]
      cases hm : missing d.F with
      | nil => exact tz_installs h0 hz e1
      | cons i l =>
        show TStays d.F (if d.wait ≤ 1 then _ else _ : Plan).ws
        split
        · exact tz_nil hz
        · exact tz_nil hz
    · rw [if_neg e1]; exact tz_nil hz
  split
  · exact tz_nil hz
  split
  · exact tz_offers h0 hz e.text
  split
  · unfold takes
    by_cases e1 : fld d.F 2 ≠ 1
    · rw [if_pos e1]; exact tz_nil hz
    rw [if_neg e1]
    have htr := hz (by omega)
    split
    · exact tz_nil hz
    split
    · exact tz_nil hz
    · rename_i hh _
      refine tz_record hr hz [textW (5 + e.n.toNat) e.text 0] ?_ (fun _ => htr)
      intro x hx
      simp only [List.mem_cons, List.not_mem_nil, or_false] at hx
      subst hx
      show 2 ≤ 5 + e.n.toNat
      omega
  · unfold confirms
    split
    · exact tz_nil hz
    · exact tz_note hr hz (fun _ => rfl)
theorem tz_do {d : Dev} (h : Inv' d) (hz : Tz d.F) (e : Ev) : Tz (doM d e).1.F := by
  have hp := tz_planned h hz e
  unfold doM
  split
  · exact hp e.cut.toNat (tornN e.torn) (tornN_le _)
  · have := hp (planned d e).ws.length 16 (Nat.le_refl _)
    rw [cutAt_all (Nat.le_refl _)] at this
    exact this
end Go.Proofs.YtjfmiomopfjecabGreat.M

/- The events of a device: what the program plans is what the document says. -/
namespace Go.Proofs.YtjfmiomopfjecabGreat
open Go.RowKit Go.Lib

theorem note_res {F : Nat → Nat} {kp p q l0 va l1 vb th : Nat} (h1 : kp < 256) (h2 : p < 256) (h3 : q < 256) (h4 : l0 < 256) (h5 : l1 < 256) (h6 : va ≤ 65535) (h7 : vb ≤ 65535) (h8 : th < 256) :
    resW (gwOf (1 - M.recAt F, recP ((M.fld F 0 + 1) % 256) kp p q l0 va l1 vb th)) = resW (M.noteW F 0 kp p q l0 l1 (va / 256) (va % 256) (vb / 256) (vb % 256) th) := by
  unfold resW gwOf M.noteW
  rw [if_neg (by omega)]
  refine congrArg (Prod.mk _) ?_
  funext i
  show M.bz (recP ((M.fld F 0 + 1) % 256) kp p q l0 va l1 vb th) i = M.recB ((M.fld F 0 + 1 + 0) % 256) kp p q l0 l1 (va / 256) (va % 256) (vb / 256) (vb % 256) th i
  unfold recP
  rw [M.bz_mk (fun i hi => M.recB_bytes (by omega) h1 h2 h3 h4 h5 (by omega) (by omega) (by omega) (by omega) h8 0 i hi) i.2]
theorem ver_lt {F : Nat → Nat} (hF : ∀ j, F j < 256) (s : Nat) : M.verOf F s ≤ 65535 := by
  unfold M.verOf M.fld
  have := hF (16 * M.recAt F + (6 + 2 * s))
  have := hF (16 * M.recAt F + (7 + 2 * s))
  omega
theorem ver_hi {F : Nat → Nat} (hF : ∀ j, F j < 256) (s : Nat) : M.verOf F s / 256 = M.fld F (6 + 2 * s) ∧ M.verOf F s % 256 = M.fld F (7 + 2 * s) := by
  unfold M.verOf
  have : M.fld F (7 + 2 * s) < 256 := hF _
  omega
theorem same_res {F : Nat → Nat} (hF : ∀ j, F j < 256) {kp p q th : Nat} (h1 : kp < 256) (h2 : p < 256) (h3 : q < 256) (h8 : th < 256) :
    resW (gwOf (1 - M.recAt F, recP ((M.fld F 0 + 1) % 256) kp p q (M.fld F 4) (M.verOf F 0) (M.fld F 5) (M.verOf F 1) th)) = resW (M.noteW F 0 kp p q (M.fld F 4) (M.fld F 5) (M.fld F 6) (M.fld F 7) (M.fld F 8) (M.fld F 9) th) := by
  have h4 : M.fld F 4 < 256 := hF _
  have h5 : M.fld F 5 < 256 := hF _
  rw [note_res h1 h2 h3 h4 h5 (ver_lt hF 0) (ver_lt hF 1) h8, (ver_hi hF 0).1, (ver_hi hF 0).2, (ver_hi hF 1).1, (ver_hi hF 1).2]
theorem recP_size (num kp ph tr s0 v0 s1 v1 th : Nat) : (recP num kp ph tr s0 v0 s1 v1 th).size ≤ maxLen := by unfold recP; rw [M.mk_size]; unfold maxLen; omega
def Link (l : List GW) (p : M.Plan) : Prop := (∀ a ∈ l, a.1 < 23 ∧ a.2.size ≤ maxLen) ∧ l.length ≤ 20 ∧ (gwsOf l).map resW = p.ws.map resW
theorem link_none {p : M.Plan} (h : p.ws = []) : Link [] p := ⟨(fun a ha => by cases ha), by show 0 ≤ 20; omega, by rw [h]; rfl⟩
theorem link_one {p : M.Plan} {y : GW} {x : M.Wr} (h : p.ws = [x]) (hy : y.1 < 23 ∧ y.2.size ≤ maxLen) (hx : resW (gwOf y) = resW x) : Link [y] p := by
  refine ⟨fun a ha => ?_, by show 1 ≤ 20; omega, ?_⟩
  · simp only [List.mem_cons, List.not_mem_nil, or_false] at ha
    subst ha
    exact hy
  · rw [h]
    show [resW (gwOf y)] = [resW x]
    rw [hx]
section
variable {d : M.Dev}
theorem inv_rec (hI : M.Inv' d) : RecOk (M.recAt d.F) (M.fld d.F 0) (M.fld d.F 1) (M.fld d.F 2) (M.fld d.F 3) (M.fld d.F 4) (M.verOf d.F 0) (M.fld d.F 5) (M.verOf d.F 1) (M.fld d.F 10) :=
  ⟨recAt_le _, hI.2.1.bytes _, hI.2.1.kept, hI.2.1.bytes _, hI.2.1.bytes _, hI.2.1.bytes _, ver_lt hI.2.1.bytes 0, hI.2.1.bytes _, ver_lt hI.2.1.bytes 1, hI.2.1.bytes _⟩
/-- an event whose record is given, with nothing else -/
def Runs (d : M.Dev) (p : M.Plan) (C : World → Nat → (Ending → World → Prop) → Prop) : Prop :=
  ∃ l, Link l p ∧ ∀ (W : World) (b : Nat) (t : TypeId), DevAt W b t d.key d.F d.on d.wait d.next d.age → C W b fun e w' => OutRaw W p.on p.wait p.next p.age p.err p.text p.ask l e w'
theorem page_lt (F : Nat → Nat) : 1 - M.recAt F < 23 := by omega
theorem ev_boot (hI : M.Inv' d) : ∃ l, Link l (M.boots d) ∧ ∀ W : World, Calls Tryz.prog 132 #[recF d.F] W fun e w' => OutRaw W (M.boots d).on (M.boots d).wait (M.boots d).next (M.boots d).age (M.boots d).err (M.boots d).text (M.boots d).ask l e w' := by
  have hF := hI.2.1.bytes
  have b1 : M.fld d.F 1 < 256 := hF _
  have b3 : M.fld d.F 3 < 256 := hF _
  by_cases hp : M.fld d.F 2 = 2
  · have hr := inv_rec hI
    rw [hp] at hr
    have er : recF d.F = recV (M.recAt d.F) (M.fld d.F 0) (M.fld d.F 1) 2 (M.fld d.F 3) (M.fld d.F 4) (M.verOf d.F 0) (M.fld d.F 5) (M.verOf d.F 1) (M.fld d.F 10) := by unfold recF; rw [hp]; rfl
    rw [er]
    by_cases h3 : M.fld d.F 3 = 0
    · refine ⟨_, link_one (x := M.sameW d.F 0 0 0) (by unfold M.boots; rw [if_pos hp, if_pos h3]) ⟨page_lt _, recP_size ..⟩ (same_res hF b1 (by omega) (by omega) (by omega)), fun W => ?_⟩
      exact rawBoot_trial hr (p := 0) (q := 0) (by rw [if_pos h3]; exact ⟨rfl, rfl⟩)
    · refine ⟨_, link_one (x := M.sameW d.F 0 2 (M.fld d.F 3 - 1)) (by unfold M.boots; rw [if_pos hp, if_neg h3]) ⟨page_lt _, recP_size ..⟩ (same_res hF b1 (by omega) (by omega) (by omega)), fun W => ?_⟩
      exact rawBoot_trial hr (p := 2) (q := M.fld d.F 3 - 1) (by rw [if_neg h3]; exact ⟨rfl, rfl⟩)
  · exact ⟨[], link_none (by unfold M.boots; rw [if_neg hp]), fun W => rawBoot_else hp⟩
theorem ev_confirm (hI : M.Inv' d) : Runs d (M.confirms d) fun W b Q => Calls Tryz.prog 137 #[.pointer (some ⟨b, 0, none⟩), recF d.F] W Q := by
  have hF := hI.2.1.bytes
  have hk := hI.2.1.kept
  by_cases hp : M.fld d.F 2 = 2
  · have hr := inv_rec hI
    rw [hp] at hr
    have er : recF d.F = recV (M.recAt d.F) (M.fld d.F 0) (M.fld d.F 1) 2 (M.fld d.F 3) (M.fld d.F 4) (M.verOf d.F 0) (M.fld d.F 5) (M.verOf d.F 1) (M.fld d.F 10) := by unfold recF; rw [hp]; rfl
    have ep : M.confirms d = ⟨[M.noteW d.F 0 (1 - M.fld d.F 1) 0 0 (M.fld d.F 4) (M.fld d.F 5) (M.fld d.F 6) (M.fld d.F 7) (M.fld d.F 8) (M.fld d.F 9) 0], 0, ⟨#[]⟩, -1, d.wait, d.next, d.age, d.on⟩ := if_neg (fun h => h hp)
    rw [er, ep]
    exact ⟨_, link_one rfl ⟨page_lt _, recP_size ..⟩ (same_res hF (by omega) (by omega) (by omega) (by omega)), fun W b t hd => rawConfirm_yes hd hr⟩
  · have ep : M.confirms d = M.fails d 12 := if_pos hp
    rw [ep]
    exact ⟨[], link_none rfl, fun W b t hd => rawConfirm_no hd hp⟩
theorem served_is (hI : M.Inv' d) : servedN (M.fld d.F 2) (M.fld d.F 1) = M.servedD d.F ∧ M.servedD d.F ≤ 1 := by
  have := hI.2.1.kept
  refine ⟨rfl, ?_⟩
  unfold M.servedD
  split <;> omega
theorem pick_fld {F : Nat → Nat} {s : Nat} (hs : s ≤ 1) : pickN s (M.fld F 4) (M.fld F 5) = M.fld F (4 + s) := by
  have hc : s = 0 ∨ s = 1 := by omega
  rcases hc with rfl | rfl <;> rfl
theorem fld_len (hI : M.Inv' d) {s : Nat} (hs : s ≤ 1) : M.fld d.F (4 + s) ≤ 96 := by
  have hc : s = 0 ∨ s = 1 := by omega
  rcases hc with rfl | rfl
  · exact hI.2.1.len0
  · exact hI.2.1.len1
theorem num_nat (s q : ByteArray) : ((evalNum s q).toNat : Int) = evalNum s q := by
  unfold evalNum
  split
  · split <;> rfl
  · rfl
theorem ev_infer (hI : M.Inv' d) (s : ByteArray) (hs : s.size ≤ maxLen) : Runs d (M.infers d s) fun W b Q => Calls Tryz.prog 134 #[.pointer (some ⟨b, 0, none⟩), recF d.F, .string s] W Q := by
  obtain ⟨e1, e2⟩ := served_is hI
  refine ⟨[], link_none rfl, fun W b t hd => ?_⟩
  have h := rawInfer (pg := M.recAt d.F) (num := M.fld d.F 0) (kp := M.fld d.F 1) (ph := M.fld d.F 2) (tr := M.fld d.F 3) (s0 := M.fld d.F 4) (v0 := M.verOf d.F 0) (s1 := M.fld d.F 5) (v1 := M.verOf d.F 1) (th := M.fld d.F 10) hd hI.2.1.bytes hI.2.1.kept (by rw [e1, pick_fld e2]; exact fld_len hI e2) s hs
  rw [e1, pick_fld e2] at h
  have ei : (M.mk (M.fld d.F (4 + M.servedD d.F)) fun j => d.F (16 * (11 + 6 * M.servedD d.F) + j)) = M.imgOf d.F (M.servedD d.F) := rfl
  rw [ei, ← num_nat] at h
  exact h
theorem spread_res (first n : Nat) (s : ByteArray) : (gwsOf (spreadG first n s)).map resW = ((List.range n).map fun i => M.textW (first + i) s (16 * i)).map resW := by
  unfold gwsOf spreadG
  rw [List.map_map, List.map_map, List.map_map]
  refine List.map_congr_left fun i _ => ?_
  show resW (gwOf (first + i, M.mk 16 fun j => M.bz s (16 * i + j))) = resW (M.textW (first + i) s (16 * i))
  unfold resW gwOf M.textW
  refine congrArg (Prod.mk _) ?_
  funext k
  exact M.bz_mk (fun _ _ => M.bz_lt _ _) k.2
theorem spread_in {first n : Nat} {s : ByteArray} (h : first + n ≤ 23) {a : GW} (ha : a ∈ spreadG first n s) : a.1 < 23 ∧ a.2.size ≤ maxLen := by
  unfold spreadG at ha
  simp only [List.mem_map, List.mem_range] at ha
  obtain ⟨i, hi, rfl⟩ := ha
  exact ⟨by show first + i < 23; omega, by show (M.mk 16 _).size ≤ maxLen; rw [M.mk_size]; unfold maxLen; omega⟩
theorem note_res1 {F : Nat → Nat} {kp p q l0 va l1 vb th : Nat} (h1 : kp < 256) (h2 : p < 256) (h3 : q < 256) (h4 : l0 < 256) (h5 : l1 < 256) (h6 : va ≤ 65535) (h7 : vb ≤ 65535) (h8 : th < 256) :
    resW (gwOf (1 - (1 - M.recAt F), recP (((M.fld F 0 + 1) % 256 + 1) % 256) kp p q l0 va l1 vb th)) = resW (M.noteW F 1 kp p q l0 l1 (va / 256) (va % 256) (vb / 256) (vb % 256) th) := by
  have hr := recAt_le F
  unfold resW gwOf M.noteW
  rw [if_pos (by omega), show 1 - (1 - M.recAt F) = M.recAt F from by omega, show ((M.fld F 0 + 1) % 256 + 1) % 256 = (M.fld F 0 + 1 + 1) % 256 from by omega]
  refine congrArg (Prod.mk _) ?_
  funext i
  show M.bz (recP ((M.fld F 0 + 1 + 1) % 256) kp p q l0 va l1 vb th) i = M.recB ((M.fld F 0 + 1 + 1) % 256) kp p q l0 l1 (va / 256) (va % 256) (vb / 256) (vb % 256) th i
  unfold recP
  rw [M.bz_mk (fun i hi => M.recB_bytes (by omega) h1 h2 h3 h4 h5 (by omega) (by omega) (by omega) (by omega) h8 0 i hi) i.2]
theorem same_res1 {F : Nat → Nat} (hF : ∀ j, F j < 256) {kp p q th : Nat} (h1 : kp < 256) (h2 : p < 256) (h3 : q < 256) (h8 : th < 256) :
    resW (gwOf (1 - (1 - M.recAt F), recP (((M.fld F 0 + 1) % 256 + 1) % 256) kp p q (M.fld F 4) (M.verOf F 0) (M.fld F 5) (M.verOf F 1) th)) = resW (M.noteW F 1 kp p q (M.fld F 4) (M.fld F 5) (M.fld F 6) (M.fld F 7) (M.fld F 8) (M.fld F 9) th) := by
  have h4 : M.fld F 4 < 256 := hF _
  have h5 : M.fld F 5 < 256 := hF _
  rw [note_res1 h1 h2 h3 h4 h5 (ver_lt hF 0) (ver_lt hF 1) h8, (ver_hi hF 0).1, (ver_hi hF 0).2, (ver_hi hF 1).1, (ver_hi hF 1).2]
theorem kept_ver (hI : M.Inv' d) : (if M.fld d.F 1 = 0 then M.verOf d.F 0 else M.verOf d.F 1) = M.keptV d.F := by
  have := hI.2.1.kept
  have hc : M.fld d.F 1 = 0 ∨ M.fld d.F 1 = 1 := by omega
  unfold M.keptV
  rcases hc with h | h
  · rw [h, if_pos rfl]
  · rw [h, if_neg (by decide)]
theorem ev_offer (hI : M.Inv' d) (hz : M.Tz d.F) (hk : d.key.size ≤ 16) (s : ByteArray) (hs : s.size ≤ maxLen) : Runs d (M.offers d s) fun W b Q => Calls Tryz.prog 135 #[.pointer (some ⟨b, 0, none⟩), recF d.F, .string s] W Q := by
  have hF := hI.2.1.bytes
  have hkp := hI.2.1.kept
  have hr := inv_rec hI
  by_cases hp : M.fld d.F 2 = 2
  · have ep : M.offers d s = M.fails d 11 := if_pos hp
    have er : recF d.F = recV (M.recAt d.F) (M.fld d.F 0) (M.fld d.F 1) 2 (M.fld d.F 3) (M.fld d.F 4) (M.verOf d.F 0) (M.fld d.F 5) (M.verOf d.F 1) (M.fld d.F 10) := by unfold recF; rw [hp]; rfl
    rw [ep, er]
    exact ⟨[], link_none rfl, fun W b t hd => rawOffer_busy hd s⟩
  have h3 : M.fld d.F 3 = 0 := hz hp
  cases hm : M.isManifest d.key s with
  | false =>
    have ep : M.offers d s = M.fails d 13 := by unfold M.offers; rw [if_neg hp, if_pos hm]
    rw [ep]
    exact ⟨[], link_none rfl, fun W b t hd => rawOffer_man hd hp s hk hs (by rw [M.isMan_is]; exact hm)⟩
  | true =>
    have hm2 : M.isMan d.key s = true := by rw [M.isMan_is]; exact hm
    by_cases hv : M.bz s 0 * 256 + M.bz s 1 ≤ M.keptV d.F ∨ M.bz s 2 * 256 + M.bz s 3 ≠ M.keptV d.F
    · have ep : M.offers d s = M.fails d 6 := by unfold M.offers; rw [if_neg hp, if_neg (by rw [hm]; decide), if_pos hv]
      rw [ep]
      exact ⟨[], link_none rfl, fun W b t hd => rawOffer_ver hd hp s hk hs hm2 (by rw [kept_ver hI]; exact hv)⟩
    · have hv0 : (if M.fld d.F 1 = 0 then M.verOf d.F 0 else M.verOf d.F 1) < M.numAt (M.bz s) 0 := by rw [kept_ver hI]; show _ < M.bz s 0 * 256 + M.bz s 1; omega
      have hv2 : M.numAt (M.bz s) 2 = (if M.fld d.F 1 = 0 then M.verOf d.F 0 else M.verOf d.F 1) := by rw [kept_ver hI]; show M.bz s 2 * 256 + M.bz s 3 = _; omega
      by_cases hp1 : M.fld d.F 2 = 1
      · have ep : M.offers d s = ⟨[M.sameW d.F 0 0 (M.fld d.F 3)] ++ [M.textW 2 s 0, M.textW 3 s 16, M.textW 4 s 32] ++ [M.sameW d.F 1 1 (M.fld d.F 3)], 0, ⟨#[]⟩, -1, 0, 1, d.age, d.on⟩ := by
          unfold M.offers; rw [if_neg hp, if_neg (by rw [hm]; decide), if_neg hv, if_pos hp1, if_pos hp1]
        have er : recF d.F = recV (M.recAt d.F) (M.fld d.F 0) (M.fld d.F 1) 1 (M.fld d.F 3) (M.fld d.F 4) (M.verOf d.F 0) (M.fld d.F 5) (M.verOf d.F 1) (M.fld d.F 10) := by unfold recF; rw [hp1]; rfl
        rw [hp1] at hr
        rw [ep, er]
        refine ⟨_, ⟨fun a ha => ?_, ?_, ?_⟩, fun W b t hd => rawOffer_more hd hr s hk hs hm2 hv0 hv2⟩
        · simp only [List.mem_append, List.mem_cons, List.not_mem_nil, or_false] at ha
          rcases ha with (rfl | ha) | rfl
          · exact ⟨page_lt _, recP_size ..⟩
          · exact spread_in (by omega) ha
          · exact ⟨by show 1 - (1 - M.recAt d.F) < 23; omega, recP_size ..⟩
        · show ([_] ++ spreadG 2 3 s ++ [_]).length ≤ 20
          rw [List.length_append, List.length_append, spreadG_length]
          show 1 + 3 + 1 ≤ 20
          omega
        · have e1 := same_res (kp := M.fld d.F 1) (p := 0) (q := 0) (th := 0) hF (by omega) (by omega) (by omega) (by omega)
          have e2 := same_res1 (kp := M.fld d.F 1) (p := 1) (q := 0) (th := 0) hF (by omega) (by omega) (by omega) (by omega)
          have e3 := spread_res 2 3 s
          unfold gwsOf at *
          rw [List.map_append, List.map_append, List.map_append, List.map_append, e3, h3]
          show [resW (gwOf _)] ++ _ ++ [resW (gwOf _)] = _
          rw [e1, e2]
          rfl
      · have ep : M.offers d s = ⟨[] ++ [M.textW 2 s 0, M.textW 3 s 16, M.textW 4 s 32] ++ [M.sameW d.F 0 1 (M.fld d.F 3)], 0, ⟨#[]⟩, -1, 0, 1, d.age, d.on⟩ := by
          unfold M.offers; rw [if_neg hp, if_neg (by rw [hm]; decide), if_neg hv, if_neg hp1, if_neg hp1]
        rw [ep]
        refine ⟨_, ⟨fun a ha => ?_, ?_, ?_⟩, fun W b t hd => rawOffer_yes hd hr hp hp1 s hk hs hm2 hv0 hv2⟩
        · simp only [List.mem_append, List.mem_cons, List.not_mem_nil, or_false] at ha
          rcases ha with ha | rfl
          · exact spread_in (by omega) ha
          · exact ⟨page_lt _, recP_size ..⟩
        · show (spreadG 2 3 s ++ [_]).length ≤ 20
          rw [List.length_append, spreadG_length]
          show 3 + 1 ≤ 20
          omega
        · have e1 := same_res (kp := M.fld d.F 1) (p := 1) (q := 0) (th := 0) hF (by omega) (by omega) (by omega) (by omega)
          have e3 := spread_res 2 3 s
          unfold gwsOf at *
          rw [List.map_append, List.map_append, e3, h3]
          show _ ++ [resW (gwOf _)] = _
          rw [e1]
          rfl
theorem ev_chunk (hI : M.Inv' d) (i : Int) (s : ByteArray) (hs : s.size ≤ maxLen) : Runs d (M.takes d i s) fun W b Q => Calls Tryz.prog 136 #[.pointer (some ⟨b, 0, none⟩), recF d.F, .int .i64 i, .string s] W Q := by
  have hF := hI.2.1.bytes
  have hkp := hI.2.1.kept
  have hr := inv_rec hI
  by_cases hp : M.fld d.F 2 ≠ 1
  · have ep : M.takes d i s = M.fails d 12 := if_pos hp
    rw [ep]
    exact ⟨[], link_none rfl, fun W b t hd => rawChunk_idle hd hp i s⟩
  have hp1 : M.fld d.F 2 = 1 := by omega
  obtain ⟨at_, hat⟩ := hI.2.1.man hp1
  have hsl := M.sealX_of hat
  have hle := M.sealX_le hsl
  have er : recF d.F = recV (M.recAt d.F) (M.fld d.F 0) (M.fld d.F 1) 1 (M.fld d.F 3) (M.fld d.F 4) (M.verOf d.F 0) (M.fld d.F 5) (M.verOf d.F 1) (M.fld d.F 10) := by unfold recF; rw [hp1]; rfl
  rw [hp1] at hr
  rw [er]
  have en : ∀ k : Nat, M.mf d.F (8 + 2 * k) * 256 + M.mf d.F (9 + 2 * k) = M.numAt (M.mf d.F) (8 + 2 * k) := fun k => by unfold M.numAt; rw [show 8 + 2 * k + 1 = 9 + 2 * k from by omega]
  by_cases hc : i < 0 ∨ (M.chunksN (M.mf d.F 4) : Int) ≤ i ∨ s.size ≠ M.chunkLen (M.mf d.F 4) i.toNat ∨ M.crc s.data.toList ≠ M.mf d.F (8 + 2 * i.toNat) * 256 + M.mf d.F (9 + 2 * i.toNat)
  · have ep : M.takes d i s = M.fails d 14 := by unfold M.takes; rw [if_neg hp, if_pos hc]
    rw [ep]
    rw [en] at hc
    exact ⟨[], link_none rfl, fun W b t hd => rawChunk_no hd hF hsl i s hs (tells_false hc)⟩
  · obtain ⟨k, rfl⟩ := Int.eq_ofNat_of_zero_le (by omega : 0 ≤ i)
    have hk : k < M.chunksN (M.mf d.F 4) := by omega
    have hk6 : k < 6 := by omega
    rw [Int.toNat_natCast] at hc
    have ht : tellsB (M.mf d.F) k s = true := by
      refine tells_true hk ?_ ?_
      · by_cases h : s.size = M.chunkLen (M.mf d.F 4) k
        · exact h
        · exact absurd (.inr (.inr (.inl h))) hc
      · rw [← en]
        by_cases h : M.crc s.data.toList = M.mf d.F (8 + 2 * k) * 256 + M.mf d.F (9 + 2 * k)
        · exact h
        · exact absurd (.inr (.inr (.inr h))) hc
    have hth : M.fld d.F 10 < 256 := hF _
    by_cases hh : M.fld d.F 10 / 2 ^ k % 2 = 1
    · have ep : M.takes d k s = M.idle d := by unfold M.takes; rw [if_neg hp, if_neg (by rw [Int.toNat_natCast]; exact hc), if_pos (by rw [Int.toNat_natCast]; exact hh)]
      rw [ep]
      exact ⟨[], link_none rfl, fun W b t hd => rawChunk_has hd hF hsl hth k hk6 s hs ht hh⟩
    · have ep : M.takes d k s = ⟨[M.textW (5 + k) s 0, M.noteW d.F 0 (M.fld d.F 1) 1 (M.fld d.F 3) (M.fld d.F 4) (M.fld d.F 5) (M.fld d.F 6) (M.fld d.F 7) (M.fld d.F 8) (M.fld d.F 9) (M.fld d.F 10 + 2 ^ k)], 0, ⟨#[]⟩, -1, 0, 1, d.age, d.on⟩ := by
        unfold M.takes; rw [if_neg hp, if_neg (by rw [Int.toNat_natCast]; exact hc), if_neg (by rw [Int.toNat_natCast]; exact hh), Int.toNat_natCast]
      rw [ep]
      refine ⟨_, ⟨fun a ha => ?_, by show 2 ≤ 20; omega, ?_⟩, fun W b t hd => rawChunk_new hd hF hsl hr k hk6 s hs ht hh⟩
      · simp only [List.mem_cons, List.not_mem_nil, or_false] at ha
        rcases ha with rfl | rfl
        · exact ⟨by show 5 + k < 23; omega, hs⟩
        · exact ⟨page_lt _, recP_size ..⟩
      · have e1 := same_res (kp := M.fld d.F 1) (p := 1) (q := M.fld d.F 3) (th := M.fld d.F 10 + 2 ^ k) hF (by omega) (by omega) (hF _) (M.bit_lt hth hk6 hh)
        show [resW (gwOf (5 + k, s)), resW (gwOf _)] = [resW (M.textW (5 + k) s 0), resW _]
        rw [e1]
        have e2 : resW (gwOf (5 + k, s)) = resW (M.textW (5 + k) s 0) := by
          unfold resW gwOf M.textW
          refine congrArg (Prod.mk _) ?_
          funext j
          show M.bz s j = M.bz s (0 + j)
          rw [Nat.zero_add]
        rw [e2]
end
end Go.Proofs.YtjfmiomopfjecabGreat

/- A tick: what the program plans is what the document says. -/
namespace Go.Proofs.YtjfmiomopfjecabGreat
open Go.RowKit Go.Lib

section
variable {d : M.Dev}
theorem missing_head {F : Nat → Nat} {i : Nat} {r : List Nat} (h : M.missing F = i :: r) : i < M.chunksN (M.mf F 4) ∧ M.fld F 10 / 2 ^ i % 2 = 0 ∧ ∀ j, j < i → M.fld F 10 / 2 ^ j % 2 = 1 := by
  unfold M.missing at h
  have e : (List.range (M.chunksN (M.mf F 4))).find? (fun i => decide (M.fld F 10 / 2 ^ i % 2 = 0)) = some i := by
    rw [← List.head?_filter, h]
    rfl
  rw [List.find?_range_eq_some] at e
  obtain ⟨h1, h2, h3⟩ := e
  refine ⟨List.mem_range.1 h2, of_decide_eq_true h1, fun j hj => ?_⟩
  have := h3 j hj
  simp at this
  omega
theorem built_none {F : Nat → Nat} (h : (M.builtN F).1 ≠ 0) : (M.builtN F).2 = ⟨#[]⟩ := by
  rw [builtO_is] at h ⊢
  unfold builtO at h ⊢
  cases hr : M.patchRes (M.imgOf F (M.fld F 1)) (M.mk (M.mf F 4) fun j => F (80 + j)) (M.mf F 5) with
  | none => rfl
  | some o =>
    rw [hr] at h
    dsimp only at h ⊢
    by_cases h1 : M.crc o.data.toList ≠ M.numAt (M.mf F) 6
    · rw [if_pos h1]
    · rw [if_neg h1] at h ⊢
      by_cases h2 : M.isImage o = false
      · rw [if_pos h2]
      · rw [if_neg h2] at h ⊢
        by_cases h3 : passB (M.mf F) o = false
        · rw [if_pos h3]
        · rw [if_neg h3] at h
          exact absurd rfl h
theorem exQ_size {g : Nat → Nat} (hg : ∀ j, g j < 256) : (M.exQ g).size ≤ maxLen := by
  unfold M.exQ maxLen
  split
  · rw [M.mk_size]
    have := hg (9 + 2 * M.chunksN (g 4))
    omega
  · show 0 ≤ _
    omega
theorem ev_built (hI : M.Inv' d) (hp1 : M.fld d.F 2 = 1) (W : World) (b : Nat) (t : TypeId) (ao : Option Addr) (n cap : Nat) (hd : DevAt W b t d.key d.F d.on d.wait d.next d.age) :
    Calls Tryz.prog 195 #[.pointer (some ⟨b, 0, none⟩), recF d.F, manOf (M.mf d.F) (.slice ao n cap)] W fun e w' => e = .returned (.tuple #[.string (M.builtN d.F).2, .int .i64 (M.builtN d.F).1]) ∧ Below W.heap.size W w' := by
  have hF := hI.2.1.bytes
  have hk := hI.2.1.kept
  obtain ⟨m1, m2, m3, m4⟩ := M.man_len hI.2.1 hp1
  rw [builtO_is]
  refine rawBuilt hd hF hk (by rw [pick_fld hk]; exact fld_len hI hk) m2 m4 (exQ_size fun j => hF _) (M.imgOf d.F (M.fld d.F 1)) ?_ ao n cap
  rw [pick_fld hk]
  rfl
theorem ev_install (hI : M.Inv' d) (hz : M.Tz d.F) (hp1 : M.fld d.F 2 = 1) : ∃ l, Link l (M.installs d) ∧ ∀ (W : World) (b : Nat) (t : TypeId) (ao : Option Addr) (n cap : Nat), DevAt W b t d.key d.F d.on d.wait d.next d.age →
    Calls Tryz.prog 185 #[.pointer (some ⟨b, 0, none⟩), recF d.F, manOf (M.mf d.F) (.slice ao n cap)] W fun e w' => OutRaw W (M.installs d).on (M.installs d).wait (M.installs d).next (M.installs d).age (M.installs d).err (M.installs d).text (M.installs d).ask l e w' := by
  have hF := hI.2.1.bytes
  have hk := hI.2.1.kept
  have hr := inv_rec hI
  have h3 : M.fld d.F 3 = 0 := hz (by omega)
  by_cases hb : (M.builtN d.F).1 ≠ 0
  · have ep : M.installs d = ⟨[M.sameW d.F 0 0 (M.fld d.F 3)], (M.builtN d.F).1, ⟨#[]⟩, -1, d.wait, d.next, d.age, d.on⟩ := if_pos hb
    rw [ep]
    refine ⟨_, link_one rfl ⟨page_lt _, recP_size ..⟩ (by rw [h3]; exact same_res hF (by omega) (by omega) (by omega) (by omega)), fun W b t ao n cap hd => ?_⟩
    refine rawInstall_no hd hr _ ⟨_, _, _, _, _, ao, n, cap, _, _, _, rfl⟩ ((M.builtN d.F).1 : Int) (by omega) fun W' hd' => ?_
    have h := ev_built hI hp1 W' b t ao n cap hd'
    rw [built_none hb] at h
    exact h
  · have hb0 : (M.builtN d.F).1 = 0 := by omega
    have hbi := M.built_ok hb0
    have his := M.image_size hbi.1
    have ep : M.installs d = ⟨M.slotW (1 - M.fld d.F 1) (M.builtN d.F).2 ++ [if 1 - M.fld d.F 1 = 0 then M.noteW d.F 0 1 2 3 (M.builtN d.F).2.size (M.fld d.F 5) (M.mf d.F 0) (M.mf d.F 1) (M.fld d.F 8) (M.fld d.F 9) 0 else M.noteW d.F 0 0 2 3 (M.fld d.F 4) (M.builtN d.F).2.size (M.fld d.F 6) (M.fld d.F 7) (M.mf d.F 0) (M.mf d.F 1) 0], 0, ⟨#[]⟩, -1, d.wait, d.next, 0, d.on⟩ := if_neg hb
    have hv : M.numAt (M.mf d.F) 0 ≤ 65535 := by
      have h0 : M.mf d.F 0 < 256 := hF _
      have h1 : M.mf d.F (0 + 1) < 256 := hF _
      unfold M.numAt
      omega
    have hv2 : M.numAt (M.mf d.F) 0 / 256 = M.mf d.F 0 ∧ M.numAt (M.mf d.F) 0 % 256 = M.mf d.F 1 := by
      have h1 : M.mf d.F (0 + 1) < 256 := hF _
      unfold M.numAt
      have e : M.mf d.F (0 + 1) = M.mf d.F 1 := rfl
      omega
    rw [ep]
    refine ⟨_, ⟨fun a ha => ?_, ?_, ?_⟩, fun W b t ao n cap hd => rawInstall_yes hd hr (M.builtN d.F).2 (by omega) (M.numAt (M.mf d.F) 0) hv _ _ _ _ ao n cap _ _ _ fun W' hd' => ?_⟩
    · rcases List.mem_append.1 ha with h | h
      · exact spread_in (by unfold M.chunksN; omega) h
      · simp only [List.mem_cons, List.not_mem_nil, or_false] at h
        subst h
        exact ⟨page_lt _, recP_size ..⟩
    · rw [List.length_append, spreadG_length]
      show M.chunksN _ + 1 ≤ 20
      unfold M.chunksN
      omega
    · have e3 := spread_res (11 + 6 * (1 - M.fld d.F 1)) (M.chunksN (M.builtN d.F).2.size) (M.builtN d.F).2
      have f4 : M.fld d.F 4 < 256 := hF _
      have f5 : M.fld d.F 5 < 256 := hF _
      unfold gwsOf at *
      rw [List.map_append, List.map_append, List.map_append, e3]
      refine congrArg (List.append _) ?_
      show [resW (gwOf _)] = [resW _]
      have hc : M.fld d.F 1 = 0 ∨ M.fld d.F 1 = 1 := by omega
      rcases hc with h | h
      · rw [h, if_pos (show (0 : Nat) = 0 from rfl), if_pos (show (0 : Nat) = 0 from rfl), if_pos (show (0 : Nat) = 0 from rfl), if_pos (show (0 : Nat) = 0 from rfl), if_neg (show ¬ (1 - 0 = 0) by decide), note_res (by omega) (by omega) (by omega) f4 (by omega) (ver_lt hF 0) hv (by omega), (ver_hi hF 0).1, (ver_hi hF 0).2, hv2.1, hv2.2]
      · rw [h, if_neg (show ¬ ((1 : Nat) = 0) by decide), if_neg (show ¬ ((1 : Nat) = 0) by decide), if_neg (show ¬ ((1 : Nat) = 0) by decide), if_neg (show ¬ ((1 : Nat) = 0) by decide), if_pos (show 1 - 1 = 0 by decide), note_res (by omega) (by omega) (by omega) (by omega) f5 hv (ver_lt hF 1) (by omega), (ver_hi hF 1).1, (ver_hi hF 1).2, hv2.1, hv2.2]
    · have h := ev_built hI hp1 W' b t ao n cap hd'
      rw [hb0] at h
      exact h
theorem ev_tick (hI : M.Inv' d) (hz : M.Tz d.F) : Runs d (M.ticks d) fun W b Q => Calls Tryz.prog 133 #[.pointer (some ⟨b, 0, none⟩), recF d.F] W Q := by
  have hF := hI.2.1.bytes
  have hkp := hI.2.1.kept
  have hr := inv_rec hI
  have hth : M.fld d.F 10 < 256 := hF _
  by_cases hp : M.fld d.F 2 = 2
  · have ep : M.ticks d = ⟨if 5 ≤ d.age + 1 then [M.sameW d.F 0 0 0] else [], 0, ⟨#[]⟩, -1, d.wait, d.next, d.age + 1, d.on⟩ := if_pos hp
    rw [ep]
    by_cases ha : 5 ≤ d.age + 1
    · rw [if_pos ha]
      exact ⟨_, link_one rfl ⟨page_lt _, recP_size ..⟩ (same_res hF (by omega) (by omega) (by omega) (by omega)), fun W b t hd => rawTick hd d.wait d.next (d.age + 1) 0 ⟨#[]⟩ (-1) _ (fun _ W' hd' => rawOlder_yes hd' hr ha (by have := hI.2.2.2.2.2.1; omega)) (fun h => absurd h (by omega)) (fun h => absurd hp h)⟩
    · rw [if_neg ha]
      exact ⟨[], link_none rfl, fun W b t hd => rawTick hd d.wait d.next (d.age + 1) 0 ⟨#[]⟩ (-1) _ (fun _ W' hd' => rawOlder_no hd' (by omega)) (fun h => absurd h (by omega)) (fun h => absurd hp h)⟩
  by_cases hp1 : M.fld d.F 2 = 1
  · obtain ⟨at_, hat⟩ := hI.2.1.man hp1
    have hsl := M.sealX_of hat
    cases hm : M.missing d.F with
    | nil =>
      have ep : M.ticks d = M.installs d := by unfold M.ticks; rw [if_neg hp, if_pos hp1, hm]
      rw [ep]
      obtain ⟨l, hl, hrun⟩ := ev_install hI hz hp1
      have eon : (M.installs d).on = d.on := by unfold M.installs; split <;> rfl
      refine ⟨l, hl, fun W b t hd => ?_⟩
      rw [eon]
      refine rawTick hd _ _ _ _ _ _ _ (fun h => absurd h hp) (fun _ W' hd' => ?_) (fun _ h => absurd hp1 h)
      refine rawFetch_install hd' hF hsl hth (fun j hj => M.missing_none hm j hj) _ _ _ _ _ _ _ fun W2 ao n cap hd2 => ?_
      have h := hrun W2 b t ao n cap hd2
      rw [eon] at h
      exact h
    | cons i r =>
      obtain ⟨h1, h2, h3⟩ := missing_head hm
      have ep : M.ticks d = ⟨[], 0, ⟨#[]⟩, if d.wait ≤ 1 then (i : Int) else -1, if d.wait ≤ 1 then d.next else d.wait - 1, if d.wait ≤ 1 then min 8 (2 * d.next) else d.next, d.age, d.on⟩ := by
        unfold M.ticks
        rw [if_neg hp, if_pos hp1, hm]
        dsimp only
        by_cases hw : d.wait ≤ 1
        · rw [if_pos hw, if_pos hw, if_pos hw, if_pos hw]
        · rw [if_neg hw, if_neg hw, if_neg hw, if_neg hw]
      rw [ep]
      have w8 := hI.2.2.1
      have n8 := hI.2.2.2.2.1
      exact ⟨[], link_none rfl, fun W b t hd => rawTick hd _ _ _ _ _ _ _ (fun h => absurd h hp) (fun _ W' hd' => rawFetch_ask hd' hF hsl hth i h1 h2 h3 (by omega) (by omega)) (fun _ h => absurd hp1 h)⟩
  · have ep : M.ticks d = M.idle d := by unfold M.ticks; rw [if_neg hp, if_neg hp1]
    rw [ep]
    exact ⟨[], link_none rfl, fun W b t hd => rawTick hd d.wait d.next d.age 0 ⟨#[]⟩ (-1) [] (fun h => absurd h hp) (fun h => absurd h hp1) (fun _ _ => ⟨rfl, rfl, rfl, rfl, rfl, rfl, rfl⟩)⟩
end
end Go.Proofs.YtjfmiomopfjecabGreat

/- What a device tells of itself. -/
namespace Go.Proofs.YtjfmiomopfjecabGreat
open Go.RowKit Go.Lib

/-- what a device tells, where it is on -/
abbrev statV (F : Nat → Nat) (miss : Nat) : Value := .agg #[.bool true, .int .i64 (M.fld F 2), .int .i64 (M.servedD F), .int .i64 (M.verOf F (M.servedD F)), .int .i64 (M.verOf F (M.fld F 1)), .int .i64 (M.fld F 3), .int .i64 miss]
abbrev statNo : Value := .agg #[.bool false, .int .i64 0, .int .i64 0, .int .i64 0, .int .i64 0, .int .i64 0, .int .i64 0]
section
variable {pg num kp ph tr s0 v0 s1 v1 th : Nat} {w : World} {b : Nat} {t : TypeId} {key : ByteArray} {F : Nat → Nat} {on : Bool} {wait next age : Nat}
set_option maxRecDepth 10000 in
theorem devStatus_off (h : DevAt w b t key F false wait next age) :
    Calls Tryz.prog 61 #[.pointer (some ⟨b, 0, none⟩)] w fun e w' => e = .returned statNo ∧ Below w.heap.size w w' := by
  have hlt := h.lt
  have hne : ¬ b = w.heap.size := by omega
  have hc := h.onC
  clear h
  go_enter Tryz.func61, Tryz.ntmps61
  go_wp2
  refine bodyPost_ret (v := statNo) (by simp [results, Tryz.results61, go_sem]) rfl ⟨rfl, ?_⟩
  repeat (first | with_reducible exact unhide HB | with_reducible exact Below.refl _ _ | with_reducible refine bdrew ?_ | (with_reducible refine brow ?_ ?_; (focus (first | omega | (simp; done) | (simp; omega)))) | (with_reducible refine bset ?_ ?_; (focus (first | omega | (simp; done) | (simp; omega)))) | (with_reducible refine balloc ?_ ?_; (focus (first | omega | (simp; done) | (simp; omega)))) | (with_reducible refine bvia (unhide HB1) ?_ ?_; (focus (first | omega | (simp; done) | (simp; omega)))) | (with_reducible refine bvia (unhide HB2) ?_ ?_; (focus (first | omega | (simp; done) | (simp; omega)))) | (with_reducible refine bvia (unhide HB3) ?_ ?_; (focus (first | omega | (simp; done) | (simp; omega)))) | (with_reducible refine bvia (unhide HB4) ?_ ?_; (focus (first | omega | (simp; done) | (simp; omega)))) | (with_reducible refine bvia (unhide HB5) ?_ ?_; (focus (first | omega | (simp; done) | (simp; omega)))) | (with_reducible refine bvia (unhide HB6) ?_ ?_; (focus (first | omega | (simp; done) | (simp; omega)))))
theorem second_block (w : World) (o1 o2 : Obj) : ((w.alloc o1).alloc o2).heap[w.heap.size + 1]? = some o2 := last_block _ _ (by simp)
theorem slot_ver (F : Nat → Nat) {i : Nat} (hi : i ≤ 1) : pickN i (M.verOf F 0) (M.verOf F 1) = M.verOf F i := by
  have hc : i = 0 ∨ i = 1 := by omega
  rcases hc with rfl | rfl <;> rfl
set_option maxRecDepth 10000 in
set_option maxHeartbeats 4000000 in
theorem rawStatus_idle (h : DevAt w b t key F true wait next age) (hk : kp ≤ 1) (hp : ph ≠ 1)
    (hrec : ∀ (W : World) (_ : DevAt W b t key F true wait next age), Calls Tryz.prog 80 #[.pointer (some ⟨b, 0, none⟩)] W fun e w' => e = .returned (recV pg num kp ph tr s0 v0 s1 v1 th) ∧ Below W.heap.size W w') :
    Calls Tryz.prog 61 #[.pointer (some ⟨b, 0, none⟩)] w fun e w' => e = .returned (.agg #[.bool true, .int .i64 ph, .int .i64 (servedN ph kp), .int .i64 (pickN (servedN ph kp) v0 v1), .int .i64 (pickN kp v0 v1), .int .i64 tr, .int .i64 0]) ∧ Below w.heap.size w w' := by
  have hlt := h.lt
  have hne : ¬ b = w.heap.size := by omega
  have hc := h.onC
  have HD := hide h
  have HR := hide hrec
  have HSV := hide (fun W => recServed_d pg num kp ph tr s0 v0 s1 v1 th W hk)
  have HS1 := hide (fun W => recSlot_d pg num kp ph tr s0 v0 s1 v1 th (servedN ph kp) W)
  have HS2 := hide (fun W => recSlot_d pg num kp ph tr s0 v0 s1 v1 th kp W)
  have hp1 : ¬ (ph : Int) = 1 := by omega
  clear h hrec
  generalize servedN ph kp = svd at *
  generalize pickN svd s0 s1 = sz at *
  generalize pickN svd v0 v1 = sv at *
  generalize pickN kp s0 s1 = kz at *
  generalize pickN kp v0 v1 = kv at *
  go_enter Tryz.func61, Tryz.ntmps61
  go_wp2_with fail
  refine (unhide HR _ ((unhide HD).alloc _)).mono ?_
  rintro e w1 ⟨rfl, hb1⟩
  obtain ⟨k0, hs1, hb⟩ := blk1 hb1
  have K0 := hide k0
  have HB1 := hide hb
  clear hb hb1 k0 hc
  go_wp2_with fail
  refine cut_code (fun a W => ∃ (g : Nat) (x16 x17 x18 x19 : Value), a = ⟨#[.pointer (some ⟨b, 0, none⟩), undef, .pointer (some ⟨w.heap.size, 0, none⟩), .pointer (some ⟨w1.heap.size, 0, none⟩), .pointer (some ⟨g, 0, none⟩), undef, undef, undef, .pointer (some ⟨b, 0, none⟩), .pointer (some ⟨b, 0, none⟩), .pointer (some ⟨b, 369, none⟩), .bool true, .bool false, undef, .pointer (some ⟨b, 0, none⟩), recV pg num kp ph tr s0 v0 s1 v1 th, x16, x17, x18, x19, undef, undef, undef, undef, undef, undef, undef, undef, undef, undef, undef, undef, undef, undef, undef, undef, undef, undef, undef, undef, undef, undef, undef, undef, undef, undef], []⟩ ∧ W.heap[w1.heap.size]? = some (.cells #[.int .i64 pg, .int .i64 num, .int .i64 kp, .int .i64 ph, .int .i64 tr, .int .i64 s0, .int .i64 v0, .int .i64 s1, .int .i64 v1, .int .i64 th] 133 (0, 0)) ∧ W.heap[g]? = some (.cells #[.int .i64 sz, .int .i64 sv] 131 (0, 0)) ∧ W.heap[w.heap.size]? = some (.cells #[.bool false, .int .i64 0, .int .i64 0, .int .i64 0, .int .i64 0, .int .i64 0, .int .i64 0] 52 (0, 0)) ∧ w1.heap.size < g ∧ Below w.heap.size w W) ?_ ?_
  · have rule : ∀ (X : World) (o : Nat), X.heap[w1.heap.size]? = some (.cells #[.int .i64 pg, .int .i64 num, .int .i64 kp, .int .i64 ph, .int .i64 tr, .int .i64 s0, .int .i64 v0, .int .i64 s1, .int .i64 v1, .int .i64 th] 133 (0, 0)) → X.cell? ⟨w1.heap.size, o, none⟩ = (#[.int .i64 pg, .int .i64 num, .int .i64 kp, .int .i64 ph, .int .i64 tr, .int .i64 s0, .int .i64 v0, .int .i64 s1, .int .i64 v1, .int .i64 th] : Array Value)[o]? := fun X o h => cell_in h o
    go_region_held3 (fun X => X.heap[w1.heap.size]? = some (.cells #[.int .i64 pg, .int .i64 num, .int .i64 kp, .int .i64 ph, .int .i64 tr, .int .i64 s0, .int .i64 v0, .int .i64 s1, .int .i64 v1, .int .i64 th] 133 (0, 0))) ((repeat (first | with_reducible exact hR2 | with_reducible exact hR1 | with_reducible exact last_block _ _ rfl | with_reducible refine ablk ?_ | with_reducible refine drew_block ?_ | (with_reducible refine sblk ?_ ?_; (focus omega))))) ((first | (go_at_call 82; refine (unhide HSV _).mono ?_; rintro e wA ⟨rfl, hbA⟩; have hR1 : wA.heap[w1.heap.size]? = some (.cells #[.int .i64 pg, .int .i64 num, .int .i64 kp, .int .i64 ph, .int .i64 tr, .int .i64 s0, .int .i64 v0, .int .i64 s1, .int .i64 v1, .int .i64 th] 133 (0, 0)) := kept_block hbA (by (repeat (first | with_reducible exact hR2 | with_reducible exact hR1 | with_reducible exact last_block _ _ rfl | with_reducible refine ablk ?_ | with_reducible refine drew_block ?_ | (with_reducible refine sblk ?_ ?_; (focus omega))))); have hsA := hbA.size; (try simp at hsA); have hZ1 : wA.heap[w.heap.size]? = some (.cells #[.bool false, .int .i64 0, .int .i64 0, .int .i64 0, .int .i64 0, .int .i64 0, .int .i64 0] 52 (0, 0)) := kept_block hbA (by repeat (first | with_reducible exact unhide K0 | with_reducible refine ablk ?_ | with_reducible refine drew_block ?_)); (try (have kG1 := kept_block hbA (drew_block (second_block _ _ _))))) | (go_at_call 81; refine (unhide HS1 _).mono ?_; rintro e wB ⟨rfl, hbB⟩; have hR2 : wB.heap[w1.heap.size]? = some (.cells #[.int .i64 pg, .int .i64 num, .int .i64 kp, .int .i64 ph, .int .i64 tr, .int .i64 s0, .int .i64 v0, .int .i64 s1, .int .i64 v1, .int .i64 th] 133 (0, 0)) := kept_block hbB (by (repeat (first | with_reducible exact hR2 | with_reducible exact hR1 | with_reducible exact last_block _ _ rfl | with_reducible refine ablk ?_ | with_reducible refine drew_block ?_ | (with_reducible refine sblk ?_ ?_; (focus omega))))); have hsB := hbB.size; (try simp at hsB); have hZ2 : wB.heap[w.heap.size]? = some (.cells #[.bool false, .int .i64 0, .int .i64 0, .int .i64 0, .int .i64 0, .int .i64 0, .int .i64 0] 52 (0, 0)) := kept_block hbB (by repeat (first | with_reducible exact hZ1 | with_reducible refine ablk ?_)); (try (have kG := kept_block hbB kG1; have hxG := (block_facts kG).1; have hfG := (block_facts kG).2)); (try (have kG := kept_block hbB (last_block _ _ rfl); have hxG := (block_facts kG).1; have hfG := (block_facts kG).2)))))
    all_goals
      have HB4 := hide hbA
      have HB5 := hide hbB
      refine ⟨rfl, _, _, _, _, _, rfl, ?_, ?_, ?_, ?_, ?_⟩
      · (repeat (first | with_reducible exact hR2 | with_reducible exact hR1 | with_reducible exact last_block _ _ rfl | with_reducible refine ablk ?_ | with_reducible refine drew_block ?_ | (with_reducible refine sblk ?_ ?_; (focus omega))))
      · first | (with_reducible exact last_block _ _ rfl) | exact (setCell_in (setCell_in kG 0 _) 1 _).trans rfl
      · repeat (first | with_reducible exact hZ2 | with_reducible refine ablk ?_ | (with_reducible refine sblk ?_ ?_; (focus omega)))
      · omega
      · repeat (first | with_reducible exact unhide HB | with_reducible exact Below.refl _ _ | with_reducible refine bdrew ?_ | (with_reducible refine brow ?_ ?_; (focus (first | omega | (simp; done) | (simp; omega)))) | (with_reducible refine bset ?_ ?_; (focus (first | omega | (simp; done) | (simp; omega)))) | (with_reducible refine balloc ?_ ?_; (focus (first | omega | (simp; done) | (simp; omega)))) | (with_reducible refine bvia (unhide HB1) ?_ ?_; (focus (first | omega | (simp; done) | (simp; omega)))) | (with_reducible refine bvia (unhide HB2) ?_ ?_; (focus (first | omega | (simp; done) | (simp; omega)))) | (with_reducible refine bvia (unhide HB3) ?_ ?_; (focus (first | omega | (simp; done) | (simp; omega)))) | (with_reducible refine bvia (unhide HB4) ?_ ?_; (focus (first | omega | (simp; done) | (simp; omega)))) | (with_reducible refine bvia (unhide HB5) ?_ ?_; (focus (first | omega | (simp; done) | (simp; omega)))) | (with_reducible refine bvia (unhide HB6) ?_ ?_; (focus (first | omega | (simp; done) | (simp; omega)))))
  · rintro _ W4 ⟨g, x16, x17, x18, x19, rfl, q1, q2, q3, hg, hbW⟩
    have hgl : g < W4.heap.size := (Array.getElem?_eq_some_iff.1 q2).1
    obtain ⟨hxr, hfr⟩ := block_facts q1
    have Q1 := hide q1
    have Q2 := hide q2
    have Q3 := hide q3
    have HBW := hide hbW
    clear q1 q2 q3 hbW HB1 K0
    go_wp2_with fail
    refine (unhide HS2 _).mono ?_
    rintro e w5 ⟨rfl, hb5⟩
    have P1 := hide (kept_block hb5 (unhide Q1))
    have P2 := hide (kept_block hb5 (unhide Q2))
    have P3 := hide (kept_block hb5 (unhide Q3))
    have hs5 := hb5.size
    have HB0 : Hid (Below w.heap.size w w5) := bvia hb5 (by omega) (unhide HBW)
    clear hb5 Q1 Q2 Q3 HBW hxr hfr HS1 HS2
    go_wp2_with fail
    refine cut_code (fun a W => ∃ (g6 : Nat) (y20 y21 y22 y23 y24 y25 y26 y27 y28 y29 y30 y31 y32 y33 y34 : Value), a = ⟨#[.pointer (some ⟨b, 0, none⟩), undef, .pointer (some ⟨w.heap.size, 0, none⟩), .pointer (some ⟨w1.heap.size, 0, none⟩), .pointer (some ⟨g, 0, none⟩), .pointer (some ⟨w5.heap.size, 0, none⟩), .pointer (some ⟨g6, 0, none⟩), undef, .pointer (some ⟨b, 0, none⟩), .pointer (some ⟨b, 0, none⟩), .pointer (some ⟨b, 369, none⟩), .bool true, .bool false, undef, .pointer (some ⟨b, 0, none⟩), recV pg num kp ph tr s0 v0 s1 v1 th, x16, x17, x18, x19, y20, y21, y22, y23, y24, y25, y26, y27, y28, y29, y30, y31, y32, y33, y34, undef, undef, undef, undef, undef, undef, undef, undef, undef, undef, undef], []⟩ ∧ W.heap[w1.heap.size]? = some (.cells #[.int .i64 pg, .int .i64 num, .int .i64 kp, .int .i64 ph, .int .i64 tr, .int .i64 s0, .int .i64 v0, .int .i64 s1, .int .i64 v1, .int .i64 th] 133 (0, 0)) ∧ W.heap[g6]? = some (.cells #[.bool true, .int .i64 ph, .int .i64 svd, .int .i64 sv, .int .i64 kv, .int .i64 tr, .int .i64 0] 52 (0, 0)) ∧ W.heap[w.heap.size]? = some (.cells #[.bool false, .int .i64 0, .int .i64 0, .int .i64 0, .int .i64 0, .int .i64 0, .int .i64 0] 52 (0, 0)) ∧ w5.heap.size < g6 ∧ Below w.heap.size w W) ?_ ?_
    · have rule1 : ∀ (X : World) (o : Nat), X.heap[w1.heap.size]? = some (.cells #[.int .i64 pg, .int .i64 num, .int .i64 kp, .int .i64 ph, .int .i64 tr, .int .i64 s0, .int .i64 v0, .int .i64 s1, .int .i64 v1, .int .i64 th] 133 (0, 0)) → X.cell? ⟨w1.heap.size, o, none⟩ = (#[.int .i64 pg, .int .i64 num, .int .i64 kp, .int .i64 ph, .int .i64 tr, .int .i64 s0, .int .i64 v0, .int .i64 s1, .int .i64 v1, .int .i64 th] : Array Value)[o]? := fun X o h => cell_in h o
      have rule2 : ∀ (X : World) (o : Nat), X.heap[g]? = some (.cells #[.int .i64 sz, .int .i64 sv] 131 (0, 0)) → X.cell? ⟨g, o, none⟩ = (#[.int .i64 sz, .int .i64 sv] : Array Value)[o]? := fun X o h => cell_in h o
      have rule3 : ∀ (X : World) (o : Nat), X.heap[w5.heap.size]? = some (.cells #[.int .i64 kz, .int .i64 kv] 131 (0, 0)) → X.cell? ⟨w5.heap.size, o, none⟩ = (#[.int .i64 kz, .int .i64 kv] : Array Value)[o]? := fun X o h => cell_in h o
      go_region_held3 (fun X => X.heap[w1.heap.size]? = some (.cells #[.int .i64 pg, .int .i64 num, .int .i64 kp, .int .i64 ph, .int .i64 tr, .int .i64 s0, .int .i64 v0, .int .i64 s1, .int .i64 v1, .int .i64 th] 133 (0, 0)) ∧ X.heap[g]? = some (.cells #[.int .i64 sz, .int .i64 sv] 131 (0, 0)) ∧ X.heap[w5.heap.size]? = some (.cells #[.int .i64 kz, .int .i64 kv] 131 (0, 0))) (refine ⟨?_, ?_, ?_⟩ <;> (repeat (first | with_reducible exact hP1 | with_reducible exact hP2 | with_reducible exact hP3 | with_reducible exact unhide P1 | with_reducible exact unhide P2 | with_reducible exact last_block _ _ rfl | with_reducible refine ablk ?_ | with_reducible refine drew_block ?_ | (with_reducible refine sblk ?_ ?_; (focus omega))))) ((go_at_call 82; refine (unhide HSV _).mono ?_; rintro e wP ⟨rfl, hbP⟩; have hP1 : wP.heap[w1.heap.size]? = some (.cells #[.int .i64 pg, .int .i64 num, .int .i64 kp, .int .i64 ph, .int .i64 tr, .int .i64 s0, .int .i64 v0, .int .i64 s1, .int .i64 v1, .int .i64 th] 133 (0, 0)) := kept_block hbP (by repeat (first | with_reducible exact unhide P1 | with_reducible refine ablk ?_ | with_reducible refine drew_block ?_)); have hP2 : wP.heap[g]? = some (.cells #[.int .i64 sz, .int .i64 sv] 131 (0, 0)) := kept_block hbP (by repeat (first | with_reducible exact unhide P2 | with_reducible refine ablk ?_ | with_reducible refine drew_block ?_)); have hP3 : wP.heap[w5.heap.size]? = some (.cells #[.int .i64 kz, .int .i64 kv] 131 (0, 0)) := kept_block hbP (by repeat (first | with_reducible exact last_block _ _ rfl | with_reducible refine ablk ?_ | with_reducible refine drew_block ?_)); have hZP : wP.heap[w.heap.size]? = some (.cells #[.bool false, .int .i64 0, .int .i64 0, .int .i64 0, .int .i64 0, .int .i64 0, .int .i64 0] 52 (0, 0)) := kept_block hbP (by repeat (first | with_reducible exact unhide P3 | with_reducible refine ablk ?_ | with_reducible refine drew_block ?_)); have hsP := hbP.size; (try simp at hsP); (try (have kG := kept_block hbP (drew_block (second_block _ _ _)); have hxG := (block_facts kG).1; have hfG := (block_facts kG).2))))
      all_goals
        have HB4 := hide hbP
        have HB := HB0
        refine ⟨rfl, _, _, _, _, _, _, _, _, _, _, _, _, _, _, _, _, rfl, ?_, ?_, ?_, ?_, ?_⟩
        · repeat (first | with_reducible exact hP1 | with_reducible refine ablk ?_ | (with_reducible refine sblk ?_ ?_; (focus omega)))
        · first | (with_reducible exact last_block _ _ rfl) | exact (setCell_in (setCell_in (setCell_in (setCell_in (setCell_in (setCell_in (setCell_in kG 0 _) 1 _) 2 _) 3 _) 4 _) 5 _) 6 _).trans rfl
        · repeat (first | with_reducible exact hZP | with_reducible refine ablk ?_ | (with_reducible refine sblk ?_ ?_; (focus omega)))
        · omega
        · repeat (first | with_reducible exact unhide HB | with_reducible exact Below.refl _ _ | with_reducible refine bdrew ?_ | (with_reducible refine brow ?_ ?_; (focus (first | omega | (simp; done) | (simp; omega)))) | (with_reducible refine bset ?_ ?_; (focus (first | omega | (simp; done) | (simp; omega)))) | (with_reducible refine balloc ?_ ?_; (focus (first | omega | (simp; done) | (simp; omega)))) | (with_reducible refine bvia (unhide HB1) ?_ ?_; (focus (first | omega | (simp; done) | (simp; omega)))) | (with_reducible refine bvia (unhide HB2) ?_ ?_; (focus (first | omega | (simp; done) | (simp; omega)))) | (with_reducible refine bvia (unhide HB3) ?_ ?_; (focus (first | omega | (simp; done) | (simp; omega)))) | (with_reducible refine bvia (unhide HB4) ?_ ?_; (focus (first | omega | (simp; done) | (simp; omega)))) | (with_reducible refine bvia (unhide HB5) ?_ ?_; (focus (first | omega | (simp; done) | (simp; omega)))) | (with_reducible refine bvia (unhide HB6) ?_ ?_; (focus (first | omega | (simp; done) | (simp; omega)))))
    · rintro _ W6 ⟨g6, y20, y21, y22, y23, y24, y25, y26, y27, y28, y29, y30, y31, y32, y33, y34, rfl, q1, q2, q3, hg6, hbW⟩
      obtain ⟨hxr, hfr⟩ := block_facts q1
      obtain ⟨hxs, hfs⟩ := block_facts q2
      obtain ⟨hxz, hfz⟩ := block_facts q3
      have HB := hide hbW
      have n6 : ¬ g6 = w.heap.size := by omega
      clear q1 q2 q3 hbW
      go_wp2
      refine bodyPost_ret (v := .agg #[.bool true, .int .i64 ph, .int .i64 svd, .int .i64 sv, .int .i64 kv, .int .i64 tr, .int .i64 0]) (by simp [results, Tryz.results61, go_sem, hxz]) rfl ⟨rfl, ?_⟩
      repeat (first | with_reducible exact unhide HB | with_reducible exact Below.refl _ _ | with_reducible refine bdrew ?_ | (with_reducible refine brow ?_ ?_; (focus (first | omega | (simp; done) | (simp; omega)))) | (with_reducible refine bset ?_ ?_; (focus (first | omega | (simp; done) | (simp; omega)))) | (with_reducible refine balloc ?_ ?_; (focus (first | omega | (simp; done) | (simp; omega)))) | (with_reducible refine bvia (unhide HB1) ?_ ?_; (focus (first | omega | (simp; done) | (simp; omega)))) | (with_reducible refine bvia (unhide HB2) ?_ ?_; (focus (first | omega | (simp; done) | (simp; omega)))) | (with_reducible refine bvia (unhide HB3) ?_ ?_; (focus (first | omega | (simp; done) | (simp; omega)))) | (with_reducible refine bvia (unhide HB4) ?_ ?_; (focus (first | omega | (simp; done) | (simp; omega)))) | (with_reducible refine bvia (unhide HB5) ?_ ?_; (focus (first | omega | (simp; done) | (simp; omega)))) | (with_reducible refine bvia (unhide HB6) ?_ ?_; (focus (first | omega | (simp; done) | (simp; omega)))))
set_option maxRecDepth 10000 in
set_option maxHeartbeats 4000000 in
theorem rawStatus_fetch (h : DevAt w b t key F true wait next age) (hk : kp ≤ 1) (hth : th < 256) (c : Nat) (hc6 : c ≤ 6) (a0 a2 a5 a6 : Int) (a4 : Nat) (ha4 : a4 ≤ 96) (hc4 : M.chunksN a4 = c) (x1 : Bool) (x2 x3 : ByteArray)
    (hman : ∀ (W : World) (_ : DevAt W b t key F true wait next age), Calls Tryz.prog 83 #[.pointer (some ⟨b, 0, none⟩)] W fun e w' => ∃ ao cap, e = .returned (manV a0 a2 a4 a5 a6 (.slice ao c cap) x1 x2 x3) ∧ Below W.heap.size W w')
    (hrec : ∀ (W : World) (_ : DevAt W b t key F true wait next age), Calls Tryz.prog 80 #[.pointer (some ⟨b, 0, none⟩)] W fun e w' => e = .returned (recV pg num kp 1 tr s0 v0 s1 v1 th) ∧ Below W.heap.size W w') :
    Calls Tryz.prog 61 #[.pointer (some ⟨b, 0, none⟩)] w fun e w' => e = .returned (.agg #[.bool true, .int .i64 1, .int .i64 (servedN 1 kp), .int .i64 (pickN (servedN 1 kp) v0 v1), .int .i64 (pickN kp v0 v1), .int .i64 tr, .int .i64 (missN th c)]) ∧ Below w.heap.size w w' := by
  have hlt := h.lt
  have hne : ¬ b = w.heap.size := by omega
  have hc := h.onC
  have HD := hide h
  have HR := hide hrec
  have HSV := hide (fun W => recServed_d pg num kp 1 tr s0 v0 s1 v1 th W hk)
  have HS1 := hide (fun W => recSlot_d pg num kp 1 tr s0 v0 s1 v1 th (servedN 1 kp) W)
  have HS2 := hide (fun W => recSlot_d pg num kp 1 tr s0 v0 s1 v1 th kp W)
  have HM := hide hman
  have HCH := hide (fun (W : World) (v : Value) => manChunks_any a0 a2 a6 a5 a4 v x1 x2 x3 W (by omega))
  rw [hc4] at HCH
  have HMI := hide (fun W => recMissing_any pg num kp 1 tr s0 v0 s1 v1 th c W hth hc6)
  clear h hrec hman
  generalize missN th c = mi at *
  generalize servedN 1 kp = svd at *
  generalize pickN svd s0 s1 = sz at *
  generalize pickN svd v0 v1 = sv at *
  generalize pickN kp s0 s1 = kz at *
  generalize pickN kp v0 v1 = kv at *
  go_enter Tryz.func61, Tryz.ntmps61
  go_wp2_with fail
  refine (unhide HR _ ((unhide HD).alloc _)).mono ?_
  rintro e w1 ⟨rfl, hb1⟩
  obtain ⟨k0, hs1, hb⟩ := blk1 hb1
  have K0 := hide k0
  have HB1 := hide hb
  clear hb hb1 k0 hc
  go_wp2_with fail
  refine cut_code (fun a W => ∃ (g : Nat) (x16 x17 x18 x19 : Value), a = ⟨#[.pointer (some ⟨b, 0, none⟩), undef, .pointer (some ⟨w.heap.size, 0, none⟩), .pointer (some ⟨w1.heap.size, 0, none⟩), .pointer (some ⟨g, 0, none⟩), undef, undef, undef, .pointer (some ⟨b, 0, none⟩), .pointer (some ⟨b, 0, none⟩), .pointer (some ⟨b, 369, none⟩), .bool true, .bool false, undef, .pointer (some ⟨b, 0, none⟩), recV pg num kp 1 tr s0 v0 s1 v1 th, x16, x17, x18, x19, undef, undef, undef, undef, undef, undef, undef, undef, undef, undef, undef, undef, undef, undef, undef, undef, undef, undef, undef, undef, undef, undef, undef, undef, undef, undef], []⟩ ∧ W.heap[w1.heap.size]? = some (.cells #[.int .i64 pg, .int .i64 num, .int .i64 kp, .int .i64 1, .int .i64 tr, .int .i64 s0, .int .i64 v0, .int .i64 s1, .int .i64 v1, .int .i64 th] 133 (0, 0)) ∧ W.heap[g]? = some (.cells #[.int .i64 sz, .int .i64 sv] 131 (0, 0)) ∧ W.heap[w.heap.size]? = some (.cells #[.bool false, .int .i64 0, .int .i64 0, .int .i64 0, .int .i64 0, .int .i64 0, .int .i64 0] 52 (0, 0)) ∧ w1.heap.size < g ∧ Below w.heap.size w W) ?_ ?_
  · have rule : ∀ (X : World) (o : Nat), X.heap[w1.heap.size]? = some (.cells #[.int .i64 pg, .int .i64 num, .int .i64 kp, .int .i64 1, .int .i64 tr, .int .i64 s0, .int .i64 v0, .int .i64 s1, .int .i64 v1, .int .i64 th] 133 (0, 0)) → X.cell? ⟨w1.heap.size, o, none⟩ = (#[.int .i64 pg, .int .i64 num, .int .i64 kp, .int .i64 1, .int .i64 tr, .int .i64 s0, .int .i64 v0, .int .i64 s1, .int .i64 v1, .int .i64 th] : Array Value)[o]? := fun X o h => cell_in h o
    go_region_held3 (fun X => X.heap[w1.heap.size]? = some (.cells #[.int .i64 pg, .int .i64 num, .int .i64 kp, .int .i64 1, .int .i64 tr, .int .i64 s0, .int .i64 v0, .int .i64 s1, .int .i64 v1, .int .i64 th] 133 (0, 0))) ((repeat (first | with_reducible exact hR2 | with_reducible exact hR1 | with_reducible exact last_block _ _ rfl | with_reducible refine ablk ?_ | with_reducible refine drew_block ?_ | (with_reducible refine sblk ?_ ?_; (focus omega))))) ((first | (go_at_call 82; refine (unhide HSV _).mono ?_; rintro e wA ⟨rfl, hbA⟩; have hR1 : wA.heap[w1.heap.size]? = some (.cells #[.int .i64 pg, .int .i64 num, .int .i64 kp, .int .i64 1, .int .i64 tr, .int .i64 s0, .int .i64 v0, .int .i64 s1, .int .i64 v1, .int .i64 th] 133 (0, 0)) := kept_block hbA (by (repeat (first | with_reducible exact hR2 | with_reducible exact hR1 | with_reducible exact last_block _ _ rfl | with_reducible refine ablk ?_ | with_reducible refine drew_block ?_ | (with_reducible refine sblk ?_ ?_; (focus omega))))); have hsA := hbA.size; (try simp at hsA); have hZ1 : wA.heap[w.heap.size]? = some (.cells #[.bool false, .int .i64 0, .int .i64 0, .int .i64 0, .int .i64 0, .int .i64 0, .int .i64 0] 52 (0, 0)) := kept_block hbA (by repeat (first | with_reducible exact unhide K0 | with_reducible refine ablk ?_ | with_reducible refine drew_block ?_)); (try (have kG1 := kept_block hbA (drew_block (second_block _ _ _))))) | (go_at_call 81; refine (unhide HS1 _).mono ?_; rintro e wB ⟨rfl, hbB⟩; have hR2 : wB.heap[w1.heap.size]? = some (.cells #[.int .i64 pg, .int .i64 num, .int .i64 kp, .int .i64 1, .int .i64 tr, .int .i64 s0, .int .i64 v0, .int .i64 s1, .int .i64 v1, .int .i64 th] 133 (0, 0)) := kept_block hbB (by (repeat (first | with_reducible exact hR2 | with_reducible exact hR1 | with_reducible exact last_block _ _ rfl | with_reducible refine ablk ?_ | with_reducible refine drew_block ?_ | (with_reducible refine sblk ?_ ?_; (focus omega))))); have hsB := hbB.size; (try simp at hsB); have hZ2 : wB.heap[w.heap.size]? = some (.cells #[.bool false, .int .i64 0, .int .i64 0, .int .i64 0, .int .i64 0, .int .i64 0, .int .i64 0] 52 (0, 0)) := kept_block hbB (by repeat (first | with_reducible exact hZ1 | with_reducible refine ablk ?_)); (try (have kG := kept_block hbB kG1; have hxG := (block_facts kG).1; have hfG := (block_facts kG).2)); (try (have kG := kept_block hbB (last_block _ _ rfl); have hxG := (block_facts kG).1; have hfG := (block_facts kG).2)))))
    all_goals
      have HB4 := hide hbA
      have HB5 := hide hbB
      refine ⟨rfl, _, _, _, _, _, rfl, ?_, ?_, ?_, ?_, ?_⟩
      · (repeat (first | with_reducible exact hR2 | with_reducible exact hR1 | with_reducible exact last_block _ _ rfl | with_reducible refine ablk ?_ | with_reducible refine drew_block ?_ | (with_reducible refine sblk ?_ ?_; (focus omega))))
      · first | (with_reducible exact last_block _ _ rfl) | exact (setCell_in (setCell_in kG 0 _) 1 _).trans rfl
      · repeat (first | with_reducible exact hZ2 | with_reducible refine ablk ?_ | (with_reducible refine sblk ?_ ?_; (focus omega)))
      · omega
      · repeat (first | with_reducible exact unhide HB | with_reducible exact Below.refl _ _ | with_reducible refine bdrew ?_ | (with_reducible refine brow ?_ ?_; (focus (first | omega | (simp; done) | (simp; omega)))) | (with_reducible refine bset ?_ ?_; (focus (first | omega | (simp; done) | (simp; omega)))) | (with_reducible refine balloc ?_ ?_; (focus (first | omega | (simp; done) | (simp; omega)))) | (with_reducible refine bvia (unhide HB1) ?_ ?_; (focus (first | omega | (simp; done) | (simp; omega)))) | (with_reducible refine bvia (unhide HB2) ?_ ?_; (focus (first | omega | (simp; done) | (simp; omega)))) | (with_reducible refine bvia (unhide HB3) ?_ ?_; (focus (first | omega | (simp; done) | (simp; omega)))) | (with_reducible refine bvia (unhide HB4) ?_ ?_; (focus (first | omega | (simp; done) | (simp; omega)))) | (with_reducible refine bvia (unhide HB5) ?_ ?_; (focus (first | omega | (simp; done) | (simp; omega)))) | (with_reducible refine bvia (unhide HB6) ?_ ?_; (focus (first | omega | (simp; done) | (simp; omega)))))
  · rintro _ W4 ⟨g, x16, x17, x18, x19, rfl, q1, q2, q3, hg, hbW⟩
    have hgl : g < W4.heap.size := (Array.getElem?_eq_some_iff.1 q2).1
    obtain ⟨hxr, hfr⟩ := block_facts q1
    have Q1 := hide q1
    have Q2 := hide q2
    have Q3 := hide q3
    have HBW := hide hbW
    clear q1 q2 q3 hbW HB1 K0
    go_wp2_with fail
    refine (unhide HS2 _).mono ?_
    rintro e w5 ⟨rfl, hb5⟩
    have P1 := hide (kept_block hb5 (unhide Q1))
    have P2 := hide (kept_block hb5 (unhide Q2))
    have P3 := hide (kept_block hb5 (unhide Q3))
    have hs5 := hb5.size
    have HB0 : Hid (Below w.heap.size w w5) := bvia hb5 (by omega) (unhide HBW)
    clear hb5 Q1 Q2 Q3 HBW hxr hfr HS1 HS2
    go_wp2_with fail
    refine cut_code (fun a W => ∃ (g6 : Nat) (y20 y21 y22 y23 y24 y25 y26 y27 y28 y29 y30 y31 y32 y33 y34 : Value), a = ⟨#[.pointer (some ⟨b, 0, none⟩), undef, .pointer (some ⟨w.heap.size, 0, none⟩), .pointer (some ⟨w1.heap.size, 0, none⟩), .pointer (some ⟨g, 0, none⟩), .pointer (some ⟨w5.heap.size, 0, none⟩), .pointer (some ⟨g6, 0, none⟩), undef, .pointer (some ⟨b, 0, none⟩), .pointer (some ⟨b, 0, none⟩), .pointer (some ⟨b, 369, none⟩), .bool true, .bool false, undef, .pointer (some ⟨b, 0, none⟩), recV pg num kp 1 tr s0 v0 s1 v1 th, x16, x17, x18, x19, y20, y21, y22, y23, y24, y25, y26, y27, y28, y29, y30, y31, y32, y33, y34, undef, undef, undef, undef, undef, undef, undef, undef, undef, undef, undef], []⟩ ∧ W.heap[w1.heap.size]? = some (.cells #[.int .i64 pg, .int .i64 num, .int .i64 kp, .int .i64 1, .int .i64 tr, .int .i64 s0, .int .i64 v0, .int .i64 s1, .int .i64 v1, .int .i64 th] 133 (0, 0)) ∧ W.heap[g6]? = some (.cells #[.bool true, .int .i64 1, .int .i64 svd, .int .i64 sv, .int .i64 kv, .int .i64 tr, .int .i64 0] 52 (0, 0)) ∧ W.heap[w.heap.size]? = some (.cells #[.bool false, .int .i64 0, .int .i64 0, .int .i64 0, .int .i64 0, .int .i64 0, .int .i64 0] 52 (0, 0)) ∧ w5.heap.size < g6 ∧ Below w.heap.size w W) ?_ ?_
    · have rule1 : ∀ (X : World) (o : Nat), X.heap[w1.heap.size]? = some (.cells #[.int .i64 pg, .int .i64 num, .int .i64 kp, .int .i64 1, .int .i64 tr, .int .i64 s0, .int .i64 v0, .int .i64 s1, .int .i64 v1, .int .i64 th] 133 (0, 0)) → X.cell? ⟨w1.heap.size, o, none⟩ = (#[.int .i64 pg, .int .i64 num, .int .i64 kp, .int .i64 1, .int .i64 tr, .int .i64 s0, .int .i64 v0, .int .i64 s1, .int .i64 v1, .int .i64 th] : Array Value)[o]? := fun X o h => cell_in h o
      have rule2 : ∀ (X : World) (o : Nat), X.heap[g]? = some (.cells #[.int .i64 sz, .int .i64 sv] 131 (0, 0)) → X.cell? ⟨g, o, none⟩ = (#[.int .i64 sz, .int .i64 sv] : Array Value)[o]? := fun X o h => cell_in h o
      have rule3 : ∀ (X : World) (o : Nat), X.heap[w5.heap.size]? = some (.cells #[.int .i64 kz, .int .i64 kv] 131 (0, 0)) → X.cell? ⟨w5.heap.size, o, none⟩ = (#[.int .i64 kz, .int .i64 kv] : Array Value)[o]? := fun X o h => cell_in h o
      go_region_held3 (fun X => X.heap[w1.heap.size]? = some (.cells #[.int .i64 pg, .int .i64 num, .int .i64 kp, .int .i64 1, .int .i64 tr, .int .i64 s0, .int .i64 v0, .int .i64 s1, .int .i64 v1, .int .i64 th] 133 (0, 0)) ∧ X.heap[g]? = some (.cells #[.int .i64 sz, .int .i64 sv] 131 (0, 0)) ∧ X.heap[w5.heap.size]? = some (.cells #[.int .i64 kz, .int .i64 kv] 131 (0, 0))) (refine ⟨?_, ?_, ?_⟩ <;> (repeat (first | with_reducible exact hP1 | with_reducible exact hP2 | with_reducible exact hP3 | with_reducible exact unhide P1 | with_reducible exact unhide P2 | with_reducible exact last_block _ _ rfl | with_reducible refine ablk ?_ | with_reducible refine drew_block ?_ | (with_reducible refine sblk ?_ ?_; (focus omega))))) ((go_at_call 82; refine (unhide HSV _).mono ?_; rintro e wP ⟨rfl, hbP⟩; have hP1 : wP.heap[w1.heap.size]? = some (.cells #[.int .i64 pg, .int .i64 num, .int .i64 kp, .int .i64 1, .int .i64 tr, .int .i64 s0, .int .i64 v0, .int .i64 s1, .int .i64 v1, .int .i64 th] 133 (0, 0)) := kept_block hbP (by repeat (first | with_reducible exact unhide P1 | with_reducible refine ablk ?_ | with_reducible refine drew_block ?_)); have hP2 : wP.heap[g]? = some (.cells #[.int .i64 sz, .int .i64 sv] 131 (0, 0)) := kept_block hbP (by repeat (first | with_reducible exact unhide P2 | with_reducible refine ablk ?_ | with_reducible refine drew_block ?_)); have hP3 : wP.heap[w5.heap.size]? = some (.cells #[.int .i64 kz, .int .i64 kv] 131 (0, 0)) := kept_block hbP (by repeat (first | with_reducible exact last_block _ _ rfl | with_reducible refine ablk ?_ | with_reducible refine drew_block ?_)); have hZP : wP.heap[w.heap.size]? = some (.cells #[.bool false, .int .i64 0, .int .i64 0, .int .i64 0, .int .i64 0, .int .i64 0, .int .i64 0] 52 (0, 0)) := kept_block hbP (by repeat (first | with_reducible exact unhide P3 | with_reducible refine ablk ?_ | with_reducible refine drew_block ?_)); have hsP := hbP.size; (try simp at hsP); (try (have kG := kept_block hbP (drew_block (second_block _ _ _)); have hxG := (block_facts kG).1; have hfG := (block_facts kG).2))))
      all_goals
        have HB4 := hide hbP
        have HB := HB0
        refine ⟨rfl, _, _, _, _, _, _, _, _, _, _, _, _, _, _, _, _, rfl, ?_, ?_, ?_, ?_, ?_⟩
        · repeat (first | with_reducible exact hP1 | with_reducible refine ablk ?_ | (with_reducible refine sblk ?_ ?_; (focus omega)))
        · first | (with_reducible exact last_block _ _ rfl) | exact (setCell_in (setCell_in (setCell_in (setCell_in (setCell_in (setCell_in (setCell_in kG 0 _) 1 _) 2 _) 3 _) 4 _) 5 _) 6 _).trans rfl
        · repeat (first | with_reducible exact hZP | with_reducible refine ablk ?_ | (with_reducible refine sblk ?_ ?_; (focus omega)))
        · omega
        · repeat (first | with_reducible exact unhide HB | with_reducible exact Below.refl _ _ | with_reducible refine bdrew ?_ | (with_reducible refine brow ?_ ?_; (focus (first | omega | (simp; done) | (simp; omega)))) | (with_reducible refine bset ?_ ?_; (focus (first | omega | (simp; done) | (simp; omega)))) | (with_reducible refine balloc ?_ ?_; (focus (first | omega | (simp; done) | (simp; omega)))) | (with_reducible refine bvia (unhide HB1) ?_ ?_; (focus (first | omega | (simp; done) | (simp; omega)))) | (with_reducible refine bvia (unhide HB2) ?_ ?_; (focus (first | omega | (simp; done) | (simp; omega)))) | (with_reducible refine bvia (unhide HB3) ?_ ?_; (focus (first | omega | (simp; done) | (simp; omega)))) | (with_reducible refine bvia (unhide HB4) ?_ ?_; (focus (first | omega | (simp; done) | (simp; omega)))) | (with_reducible refine bvia (unhide HB5) ?_ ?_; (focus (first | omega | (simp; done) | (simp; omega)))) | (with_reducible refine bvia (unhide HB6) ?_ ?_; (focus (first | omega | (simp; done) | (simp; omega)))))
    · rintro _ W6 ⟨g6, y20, y21, y22, y23, y24, y25, y26, y27, y28, y29, y30, y31, y32, y33, y34, rfl, q1, q2, q3, hg6, hbW⟩
      have HD6 := hide ((unhide HD).mono hbW hlt)
      have hg6l : g6 < W6.heap.size := (Array.getElem?_eq_some_iff.1 q2).1
      obtain ⟨hxr, hfr⟩ := block_facts q1
      have Q1 := hide q1
      have Q2 := hide q2
      have Q3 := hide q3
      have HB := hide hbW
      clear q1 q2 q3 hbW HB0 P1 P2 P3 HSV
      go_wp2_with fail
      refine (unhide HM _ (unhide HD6)).mono ?_
      rintro e w7 ⟨ao, cap, rfl, hb7⟩
      have P1 := hide (kept_block hb7 (unhide Q1))
      have P2 := hide (kept_block hb7 (unhide Q2))
      have P3 := hide (kept_block hb7 (unhide Q3))
      have hs7 := hb7.size
      have HB7 : Hid (Below w.heap.size w w7) := bvia hb7 (by omega) (unhide HB)
      clear hb7 Q1 Q2 Q3 HB hxr hfr HD6
      go_wp2_with fail
      have rule1 : ∀ (X : World) (o : Nat), X.heap[w1.heap.size]? = some (.cells #[.int .i64 pg, .int .i64 num, .int .i64 kp, .int .i64 1, .int .i64 tr, .int .i64 s0, .int .i64 v0, .int .i64 s1, .int .i64 v1, .int .i64 th] 133 (0, 0)) → X.cell? ⟨w1.heap.size, o, none⟩ = (#[.int .i64 pg, .int .i64 num, .int .i64 kp, .int .i64 1, .int .i64 tr, .int .i64 s0, .int .i64 v0, .int .i64 s1, .int .i64 v1, .int .i64 th] : Array Value)[o]? := fun X o h => cell_in h o
      have rule2 : ∀ (X : World) (o : Nat), X.heap[w7.heap.size]? = some (.cells (manC a0 a2 a4 a5 a6 (.slice ao c cap) x1 x2 x3) 143 (0, 0)) → X.cell? ⟨w7.heap.size, o, none⟩ = (manC a0 a2 a4 a5 a6 (.slice ao c cap) x1 x2 x3)[o]? := fun X o h => cell_in h o
      go_region_held3 (fun X => X.heap[w1.heap.size]? = some (.cells #[.int .i64 pg, .int .i64 num, .int .i64 kp, .int .i64 1, .int .i64 tr, .int .i64 s0, .int .i64 v0, .int .i64 s1, .int .i64 v1, .int .i64 th] 133 (0, 0)) ∧ X.heap[w7.heap.size]? = some (.cells (manC a0 a2 a4 a5 a6 (.slice ao c cap) x1 x2 x3) 143 (0, 0))) (refine ⟨?_, ?_⟩ <;> (repeat (first | with_reducible exact hB1 | with_reducible exact hB2 | with_reducible exact hA1 | with_reducible exact hA2 | with_reducible exact unhide P1 | with_reducible exact last_block _ _ rfl | with_reducible refine ablk ?_ | with_reducible refine drew_block ?_ | (with_reducible refine sblk ?_ ?_; (focus omega))))) ((first | (go_at_call 85; refine (unhide HCH _ _).mono ?_; rintro e wA ⟨rfl, hbA⟩; have hA1 := kept_block hbA (drew_block (alloc_block (unhide P1) _)); have hA2 := kept_block hbA (drew_block (last_block _ _ rfl)); have hsA := hbA.size; simp at hsA) | (go_at_call 84; refine (unhide HMI _).mono ?_; rintro e wB ⟨rfl, hbB⟩; have hB1 := kept_block hbB hA1; have hB2 := kept_block hbB hA2; have hsB := hbB.size; have kG := kept_block hbB (kept_block hbA (drew_block (alloc_block (unhide P2) _))); have hxG := (block_facts kG).1; have hfG := (block_facts kG).2)))
      obtain ⟨hxz, hfz⟩ := block_facts (kept_block hbB (kept_block hbA (drew_block (alloc_block (unhide P3) _))))
      have HB4 := hide hbA
      have HB5 := hide hbB
      have HB := HB7
      have n6 : ¬ g6 = w.heap.size := by omega
      have n7 : ¬ w.heap.size = g6 := by omega
      clear rule1 rule2 hA1 hA2 hB1 hB2 hbA hbB kG HB7
      go_wp2
      refine bodyPost_ret (v := .agg #[.bool true, .int .i64 1, .int .i64 svd, .int .i64 sv, .int .i64 kv, .int .i64 tr, .int .i64 mi]) (by simp [results, Tryz.results61, go_sem, hxz]) rfl ⟨rfl, ?_⟩
      repeat (first | with_reducible exact unhide HB | with_reducible exact Below.refl _ _ | with_reducible refine bdrew ?_ | (with_reducible refine brow ?_ ?_; (focus (first | omega | (simp; done) | (simp; omega)))) | (with_reducible refine bset ?_ ?_; (focus (first | omega | (simp; done) | (simp; omega)))) | (with_reducible refine balloc ?_ ?_; (focus (first | omega | (simp; done) | (simp; omega)))) | (with_reducible refine bvia (unhide HB1) ?_ ?_; (focus (first | omega | (simp; done) | (simp; omega)))) | (with_reducible refine bvia (unhide HB2) ?_ ?_; (focus (first | omega | (simp; done) | (simp; omega)))) | (with_reducible refine bvia (unhide HB3) ?_ ?_; (focus (first | omega | (simp; done) | (simp; omega)))) | (with_reducible refine bvia (unhide HB4) ?_ ?_; (focus (first | omega | (simp; done) | (simp; omega)))) | (with_reducible refine bvia (unhide HB5) ?_ ?_; (focus (first | omega | (simp; done) | (simp; omega)))) | (with_reducible refine bvia (unhide HB6) ?_ ?_; (focus (first | omega | (simp; done) | (simp; omega)))))
end
theorem stat_on {w : World} {b : Nat} {t : TypeId} {d : M.Dev} (hI : M.Inv' d) {wait next age : Nat} (h : DevAt w b t d.key d.F true wait next age) :
    Calls Tryz.prog 61 #[.pointer (some ⟨b, 0, none⟩)] w fun e w' => e = .returned (statV d.F (if M.fld d.F 2 = 1 then (M.missing d.F).length else 0)) ∧ Below w.heap.size w w' := by
  have hF := hI.2.1.bytes
  have hk := hI.2.1.kept
  obtain ⟨e1, e2⟩ := served_is hI
  have v1 := slot_ver d.F e2
  have v2 := slot_ver d.F hk
  by_cases hp : M.fld d.F 2 = 1
  · obtain ⟨at_, hat⟩ := hI.2.1.man hp
    have hsl := M.sealX_of hat
    have hle := M.sealX_le hsl
    have em : (M.missing d.F).length = missN (M.fld d.F 10) (M.chunksN (M.mf d.F 4)) := rfl
    have hr := rawStatus_fetch (pg := M.recAt d.F) (num := M.fld d.F 0) (kp := M.fld d.F 1) (tr := M.fld d.F 3) (s0 := M.fld d.F 4) (v0 := M.verOf d.F 0) (s1 := M.fld d.F 5) (v1 := M.verOf d.F 1) (th := M.fld d.F 10) h hk (hF _) (M.chunksN (M.mf d.F 4)) hle.2.2.2.2.2.2 _ _ _ _ (M.mf d.F 4) hle.2.2.2.1 rfl _ _ _
      (fun W hW => (devManifest_any hW hF hsl).mono fun _ _ ⟨ao, cap, a, _, c⟩ => ⟨ao, cap, a, c⟩)
      (fun W hW => by
        have := devRecord_any hW hF
        unfold recF at this
        rw [hp] at this
        exact this)
    rw [if_pos hp, em]
    rw [hp] at e1
    rw [e1, v1, v2] at hr
    unfold statV
    rw [hp]
    exact hr
  · have hr := rawStatus_idle (pg := M.recAt d.F) (num := M.fld d.F 0) (kp := M.fld d.F 1) (ph := M.fld d.F 2) (tr := M.fld d.F 3) (s0 := M.fld d.F 4) (v0 := M.verOf d.F 0) (s1 := M.fld d.F 5) (v1 := M.verOf d.F 1) (th := M.fld d.F 10) h hk hp (fun W hW => devRecord_any hW hF)
    rw [if_neg hp]
    rw [e1, v1, v2] at hr
    exact hr
end Go.Proofs.YtjfmiomopfjecabGreat

/- The document's device: a new record. -/
namespace Go.Proofs.YtjfmiomopfjecabGreat
open Go.RowKit Go.Lib

/-- bytes in any block, as a text -/
theorem text_in (X : World) (b : Nat) (ns : List Int) (n : Nat) (hn : ns.length = n) (h : X.heap[b]? = some (.cells (ns.map (Value.int .u8)).toArray 5 (0, 0))) :
    (convert 79 9 (.slice (some ⟨b, 0, none⟩) n n)).run Tryz.prog X = .ok (.string ⟨(ns.map fun n => UInt8.ofNat n.toNat).toArray⟩) X := by
  have hl : (loadCells ⟨b, 0, none⟩ n).run Tryz.prog X = .ok (ns.map (Value.int .u8)).toArray X := by
    have h2 := run_loadCells_list (P := Tryz.prog) (w := X) ⟨b, 0, none⟩ (ns.map (Value.int .u8)) (by
      intro j v hj
      rw [add_at, cell_in h]
      simpa using hj)
    rw [List.length_map, hn] at h2
    exact h2
  rw [run_convert_bytes_string _ 79 9 5 _ n n Tryz.underlying79 Tryz.underlying5 Tryz.underlying9, run_bytesToString _ _ n n ns hl, bytes_of]
  rfl
/-- what holds behind a piece of code that ends as it should -/
def OnNormal (Φ : Act → World → Prop) : Exit → Act → World → Prop
  | .normal, a, w => Φ a w
  | _, _, _ => False
theorem onNormal {Φ : Act → World → Prop} {a : Act} {w : World} (h : Φ a w) : OnNormal Φ .normal a w := h
theorem cut_normal {c : Code} {a : Act} {W : World} {Q : Exit → Act → World → Prop} (Φ : Act → World → Prop) (h1 : c.wp Tryz.prog (OnNormal Φ) a W) (h2 : ∀ a w, Φ a w → Q .normal a w) : c.wp Tryz.prog Q a W := by
  refine Code.wp_mono (fun e a w h => ?_) h1
  cases e with
  | normal => exact h2 a w h
  | _ => exact absurd h id
theorem note_text {N kept phase tries there : Nat} {ls vs : ByteArray} (hN : N < 256) (h1 : kept < 256) (h2 : phase < 256) (h3 : tries < 256) (h4 : there < 256) (hls : ls.size = 2) (hvs : vs.size = 4) :
    M.bytesOf [N] ++ M.bytesOf [kept, phase, tries] ++ ls ++ vs ++ M.bytesOf [there] ++ (M.mk 4 fun _ => 0) ++ M.bytesOf [N] = M.mk 16 (M.recB N kept phase tries (M.bz ls 0) (M.bz ls 1) (M.bz vs 0) (M.bz vs 1) (M.bz vs 2) (M.bz vs 3) there) := by
  have e1 : (M.bytesOf [N]).size = 1 := rfl
  have e3 : (M.bytesOf [kept, phase, tries]).size = 3 := rfl
  have e4 : (M.bytesOf [there]).size = 1 := rfl
  have e5 : (M.mk 4 fun _ => 0).size = 4 := M.mk_size _ _
  have f1 : M.bz (M.bytesOf [N]) 0 = N := by rw [M.bz_bytesOf (fun x hx => by simp at hx; omega)]; rfl
  have g0 : ∀ i, M.bz (M.bytesOf [kept, phase, tries]) i = [kept, phase, tries].getD i 0 := fun i => M.bz_bytesOf (fun x hx => by simp at hx; omega) i
  have f4 : M.bz (M.bytesOf [there]) 0 = there := by rw [M.bz_bytesOf (fun x hx => by simp at hx; omega)]; rfl
  have hls' := fun i => M.bz_lt ls i
  have hvs' := fun i => M.bz_lt vs i
  have hB : ∀ j, j < 16 → M.recB N kept phase tries (M.bz ls 0) (M.bz ls 1) (M.bz vs 0) (M.bz vs 1) (M.bz vs 2) (M.bz vs 3) there j < 256 := fun j hj => M.recB_bytes hN h1 h2 h3 (hls' _) (hls' _) (hvs' _) (hvs' _) (hvs' _) (hvs' _) h4 0 j hj
  refine M.bz_ext (by simp [M.mk_size, e1, e3, e4, hls, hvs]) fun j hj => ?_
  have hj' : j < 16 := by simp [M.mk_size, e1, e3, e4, hls, hvs] at hj; omega
  rw [M.bz_mk hB hj']
  simp only [M.bz_append, ByteArray.size_append, e1, e3, e4, e5, hls, hvs]
  have hc : j = 0 ∨ j = 1 ∨ j = 2 ∨ j = 3 ∨ j = 4 ∨ j = 5 ∨ j = 6 ∨ j = 7 ∨ j = 8 ∨ j = 9 ∨ j = 10 ∨ j = 11 ∨ j = 12 ∨ j = 13 ∨ j = 14 ∨ j = 15 := by omega
  have z : ∀ i, i < 4 → M.bz (M.mk 4 fun _ => 0) i = 0 := fun i hi => M.bz_mk (fun _ _ => by omega) hi
  rcases hc with rfl | rfl | rfl | rfl | rfl | rfl | rfl | rfl | rfl | rfl | rfl | rfl | rfl | rfl | rfl | rfl
  · exact f1
  · exact g0 0
  · exact g0 1
  · exact g0 2
  · rfl
  · rfl
  · rfl
  · rfl
  · rfl
  · rfl
  · exact f4
  · exact z 0 (by omega)
  · exact z 1 (by omega)
  · exact z 2 (by omega)
  · exact z 3 (by omega)
  · exact f1
theorem PlanAt.ref {X : World} {q : Nat} {l : List GW} {err ver : Int} {text : ByteArray} {ask wait next age : Int} {on : Bool} (h : PlanAt X q l err ver text ask wait next age on) : q < X.heap.size := by
  obtain ⟨_, _, _, _, hq, _⟩ := h.body
  exact (Array.getElem?_eq_some_iff.1 hq).1
theorem PlanAt.kept {X Y : World} {q : Nat} {l : List GW} {err ver : Int} {text : ByteArray} {ask wait next age : Int} {on : Bool} (h : PlanAt X q l err ver text ask wait next age on) (hb : Below X.heap.size X Y) : PlanAt Y q l err ver text ask wait next age on := by
  obtain ⟨a, b, c, d, hq, h1, h2⟩ := h.body
  exact ⟨a, b, c, d, kept_block hb hq, ownsRow_below h1 hb, ownsRow_below h2 hb⟩
/-- the record that is written -/
abbrev recT16 (N kept phase tries : Nat) (ls vs : ByteArray) (there : Nat) : ByteArray := M.mk 16 (M.recB N kept phase tries (M.bz ls 0) (M.bz ls 1) (M.bz vs 0) (M.bz vs 1) (M.bz vs 2) (M.bz vs 3) there)
theorem mk_self {n : Nat} {f : Nat → Nat} (hf : ∀ j, j < n → f j < 256) : M.mk n (M.bz (M.mk n f)) = M.mk n f := M.mk_congr fun _ hj => M.bz_mk hf hj
end Go.Proofs.YtjfmiomopfjecabGreat

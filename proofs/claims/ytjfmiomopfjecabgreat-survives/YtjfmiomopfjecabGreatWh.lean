/- Texts laid together: DevRaw2, PatchApply, DevBuilt, DevRaw3, DevRaw4, DevInst, DevFetch. -/
import Derived.Test.YtjfmiomopfjecabGreatWg
import Derived.Test.YtjfmiomopfjecabGreatWe
import Derived.Deep.RegionLaw
import Derived.Deep.DrawnRows
import Derived.Test.YtjfmiomopfjecabGreatWa
import Derived.Test.YtjfmiomopfjecabGreatWb
import Derived.Test.YtjfmiomopfjecabGreatWc
import Derived.Test.YtjfmiomopfjecabGreatWd
import Derived.Test.YtjfmiomopfjecabGreatWf
/- Events over the numbers of a record: what is asked of an image, time that goes by. -/
namespace Go.Proofs.YtjfmiomopfjecabGreat
open Go.RowKit Go.Lib

def servedN (ph kp : Nat) : Nat := if ph = 2 then 1 - kp else kp
def pickN (i a b : Nat) : Nat := if i = 0 then a else b
theorem recServed_d (pg num kp ph tr s0 v0 s1 v1 th : Nat) (w : World) (hk : kp ≤ 1) :
    Calls Tryz.prog 82 #[recV pg num kp ph tr s0 v0 s1 v1 th] w fun e w' => e = .returned (.int .i64 (servedN ph kp)) ∧ Below w.heap.size w w' := recServed_any pg num kp ph tr s0 v0 s1 v1 th w hk
theorem recSlot_d (pg num kp ph tr s0 v0 s1 v1 th i : Nat) (w : World) :
    Calls Tryz.prog 81 #[recV pg num kp ph tr s0 v0 s1 v1 th, .int .i64 i] w fun e w' => e = .returned (.agg #[.int .i64 (pickN i s0 s1), .int .i64 (pickN i v0 v1)]) ∧ Below w.heap.size w w' := recSlot_any pg num kp ph tr s0 v0 s1 v1 th i w
section
variable {pg num kp ph tr s0 v0 s1 v1 th : Nat} {w : World} {b : Nat} {t : TypeId} {key : ByteArray} {F : Nat → Nat} {on : Bool} {wait next age : Nat}
set_option maxRecDepth 10000 in
set_option maxHeartbeats 1000000 in
theorem devImage_any (hd : DevAt w b t key F on wait next age) (hF : ∀ j, F j < 256) (slot : Nat) (hs : slot ≤ 1) (hn : pickN slot s0 s1 ≤ 96) :
    Calls Tryz.prog 161 #[.pointer (some ⟨b, 0, none⟩), recV pg num kp ph tr s0 v0 s1 v1 th, .int .i64 slot] w fun e w' => e = .returned (.string (M.mk (pickN slot s0 s1) fun j => F (16 * (11 + 6 * slot) + j))) ∧ Below w.heap.size w w' := by
  have HD := hide hd
  have HF := hide hF
  clear hd hF
  go_enter Tryz.func161, Tryz.ntmps161
  go_wp2_with fail
  refine (recSlot_d pg num kp ph tr s0 v0 s1 v1 th slot _).mono ?_
  rintro e w1 ⟨rfl, hb1⟩
  obtain ⟨k1, hs1, hb⟩ := blk1 hb1
  have HD1 := hide (((unhide HD).alloc _).kept hb1)
  have HB := hide hb
  clear hb hb1 k1
  generalize hN : pickN slot s0 s1 = n at *
  generalize pickN slot v0 v1 = v at *
  have HN := hide hN
  clear hN
  have hx : ∀ X : World, X.heap[w1.heap.size]? = some (.cells #[.int .i64 n, .int .i64 v] 131 (0, 0)) → X.cell? ⟨w1.heap.size, 0, none⟩ = some (.int .i64 n) := fun X h => (block_facts h).1 0
  go_wp2_with fail
  go_region_held3 (fun X => X.cell? ⟨w1.heap.size, 0, none⟩ = some (.int .i64 n)) (go_keep) ((first | (go_at_call 72; refine (slotPage_any slot _ hs).mono ?_; rintro e w' ⟨rfl, rfl⟩) | (go_at_call 112; refine (flashText_in (((unhide HD1).alloc _).drew) (unhide HF) (11 + 6 * slot) n _ _ (by omega) (by omega) rfl rfl).mono ?_; rintro e w' ⟨rfl, rfl⟩)))
  all_goals
    generalize hT : (M.mk n fun j => F (16 * (11 + 6 * slot) + j)) = T at *
    have HT := hide hT
    clear hT
    go_wp2
    go_ret
    exact ⟨ret_string (by rw [HN.out, HT.out]), ((unhide HB).alloc (by omega) _).drew⟩
theorem eval_no {s q : ByteArray} (h : evalNum s q ≠ 0) : evalTxt s q = ⟨#[]⟩ := by
  unfold evalNum at h
  unfold evalTxt
  cases hi : M.isImage s
  · rfl
  · rw [hi, if_pos rfl] at h
    rw [if_pos rfl]
    by_cases hq : q.size = 2 * M.bz s 1
    · rw [if_pos hq] at h; exact absurd rfl h
    · rw [if_neg hq]
set_option maxRecDepth 10000 in
set_option maxHeartbeats 1000000 in
theorem rawInfer (hd : DevAt w b t key F on wait next age) (hF : ∀ j, F j < 256) (hk : kp ≤ 1) (hn : pickN (servedN ph kp) s0 s1 ≤ 96) (inp : ByteArray) (hi : inp.size ≤ maxLen) :
    Calls Tryz.prog 134 #[.pointer (some ⟨b, 0, none⟩), recV pg num kp ph tr s0 v0 s1 v1 th, .string inp] w fun e w' => OutRaw w on wait next age (evalNum (M.mk (pickN (servedN ph kp) s0 s1) fun j => F (16 * (11 + 6 * servedN ph kp) + j)) inp) (evalTxt (M.mk (pickN (servedN ph kp) s0 s1) fun j => F (16 * (11 + 6 * servedN ph kp) + j)) inp) (-1) [] e w' := by
  have hsv : servedN ph kp ≤ 1 := by unfold servedN; split <;> omega
  have HD := hide hd
  have HF := hide hF
  have HS := hide (fun W => recServed_d pg num kp ph tr s0 v0 s1 v1 th W hk)
  have HI := hide (fun (W : World) (hW : DevAt W b t key F on wait next age) => devImage_any (pg := pg) (num := num) (kp := kp) (ph := ph) (tr := tr) (v0 := v0) (v1 := v1) (th := th) hW hF (servedN ph kp) hsv hn)
  have HA := hide (fun W => netAnswer_any (M.mk (pickN (servedN ph kp) s0 s1) fun j => F (16 * (11 + 6 * servedN ph kp) + j)) inp W (by rw [M.mk_size]; unfold maxLen; omega) hi)
  have HE := hide (fun h => eval_no (s := M.mk (pickN (servedN ph kp) s0 s1) fun j => F (16 * (11 + 6 * servedN ph kp) + j)) (q := inp) h)
  clear hd hF hi hn hsv
  generalize hG : (M.mk (pickN (servedN ph kp) s0 s1) fun j => F (16 * (11 + 6 * servedN ph kp) + j)) = G at *
  generalize servedN ph kp = sv at *
  clear hG
  have hne : ¬ w.heap.size = w.heap.size + 1 := by omega
  have rule : ∀ (X : World) (o : Nat), X.heap[w.heap.size]? = some (.cells #[.int .i64 pg, .int .i64 num, .int .i64 kp, .int .i64 ph, .int .i64 tr, .int .i64 s0, .int .i64 v0, .int .i64 s1, .int .i64 v1, .int .i64 th] 133 (0, 0)) → X.cell? ⟨w.heap.size, o, none⟩ = (#[.int .i64 pg, .int .i64 num, .int .i64 kp, .int .i64 ph, .int .i64 tr, .int .i64 s0, .int .i64 v0, .int .i64 s1, .int .i64 v1, .int .i64 th] : Array Value)[o]? := fun X o h => cell_in h o
  go_enter Tryz.func134, Tryz.ntmps134
  go_wp2_with fail
  go_region_held3 (fun X => X.heap[w.heap.size]? = some (.cells #[.int .i64 pg, .int .i64 num, .int .i64 kp, .int .i64 ph, .int .i64 tr, .int .i64 s0, .int .i64 v0, .int .i64 s1, .int .i64 v1, .int .i64 th] 133 (0, 0))) (first | exact hR2 | exact hR1 | exact drew_block (first_block _ _ _)) ((first | (go_at_call 82; refine (unhide HS _).mono ?_; rintro e w1 ⟨rfl, hb1⟩; have hR1 := kept_block hb1 (drew_block (first_block _ _ _)); have HD1 := hide (((((unhide HD).alloc _).alloc _).drew).kept hb1)) | (go_at_call 161; refine (unhide HI _ (unhide HD1)).mono ?_; rintro e w2 ⟨rfl, hb2⟩; have hR2 := kept_block hb2 hR1)))
  have k2 := kept_block hb2 (kept_block hb1 (drew_block (last_block _ _ (show w.heap.size + 1 = _ by simp))))
  have hb0 : Below w.heap.size w w2 := by
    refine bvia hb2 (by have := hb1.size; simp at this; omega) ?_
    refine bvia hb1 (by simp; omega) ?_
    repeat (first | with_reducible exact unhide HB | with_reducible exact Below.refl _ _ | with_reducible refine bdrew ?_ | (with_reducible refine brow ?_ ?_; (focus (first | omega | (simp; done) | (simp; omega)))) | (with_reducible refine bset ?_ ?_; (focus (first | omega | (simp; done) | (simp; omega)))) | (with_reducible refine balloc ?_ ?_; (focus (first | omega | (simp; done) | (simp; omega)))) | (with_reducible refine bvia (unhide HB1) ?_ ?_; (focus (first | omega | (simp; done) | (simp; omega)))) | (with_reducible refine bvia (unhide HB2) ?_ ?_; (focus (first | omega | (simp; done) | (simp; omega)))) | (with_reducible refine bvia (unhide HB3) ?_ ?_; (focus (first | omega | (simp; done) | (simp; omega)))) | (with_reducible refine bvia (unhide HB4) ?_ ?_; (focus (first | omega | (simp; done) | (simp; omega)))) | (with_reducible refine bvia (unhide HB5) ?_ ?_; (focus (first | omega | (simp; done) | (simp; omega)))) | (with_reducible refine bvia (unhide HB6) ?_ ?_; (focus (first | omega | (simp; done) | (simp; omega)))))
  have hs0 : w.heap.size + 1 < w2.heap.size := (Array.getElem?_eq_some_iff.1 k2).1
  have HD2 := hide ((unhide HD1).kept hb2)
  have K2 := hide k2
  have HB0 := hide hb0
  clear hb0 hb1 hb2 hR1 hR2 k2 HD1 HI HS rule
  go_wp2_with fail
  refine (unhide HA _).mono ?_
  rintro e w3 ⟨rfl, hb3⟩
  have k2 := kept_block hb3 (unhide K2)
  have hs3 := hb3.size
  have HD3 := hide ((unhide HD2).kept hb3)
  have HB3 : Hid (Below w.heap.size w w3) := bvia hb3 (by omega) (unhide HB0)
  have K3 := hide k2
  clear hb3 k2 K2 HB0 HD2 HA
  generalize hEN : evalNum G inp = en at *
  generalize hET : evalTxt G inp = et at *
  have HEN := hide hEN
  have HET := hide hET
  clear hEN hET
  by_cases h0 : en = 0
  · subst h0
    go_wp2_with fail
    refine (devStill_any (unhide HD3)).mono ?_
    rintro e w4 ⟨rfl, hb4⟩
    obtain ⟨hx2, hf2⟩ := block_facts (kept_block hb4 (unhide K3))
    have hs4 := hb4.size
    have HB : Hid (Below w.heap.size w w4) := bvia hb4 (by omega) (unhide HB3)
    clear hb4
    have l2 : w.heap.size + 1 < w4.heap.size := (by omega); have n2 : ¬ w.heap.size + 1 = w4.heap.size := (by omega)
    go_wp2
    refine bodyPost_ret (v := outV (.slice none 0 0) on wait next age 0 et (-1)) (by simp [results, Tryz.results134, go_sem, hx2, l2]) rfl (raw_none (by rw [HEN.out, HET.out]) ?_)
    repeat (first | with_reducible exact unhide HB | with_reducible exact Below.refl _ _ | with_reducible refine bdrew ?_ | (with_reducible refine brow ?_ ?_; (focus (first | omega | (simp; done) | (simp; omega)))) | (with_reducible refine bset ?_ ?_; (focus (first | omega | (simp; done) | (simp; omega)))) | (with_reducible refine balloc ?_ ?_; (focus (first | omega | (simp; done) | (simp; omega)))) | (with_reducible refine bvia (unhide HB1) ?_ ?_; (focus (first | omega | (simp; done) | (simp; omega)))) | (with_reducible refine bvia (unhide HB2) ?_ ?_; (focus (first | omega | (simp; done) | (simp; omega)))) | (with_reducible refine bvia (unhide HB3) ?_ ?_; (focus (first | omega | (simp; done) | (simp; omega)))) | (with_reducible refine bvia (unhide HB4) ?_ ?_; (focus (first | omega | (simp; done) | (simp; omega)))) | (with_reducible refine bvia (unhide HB5) ?_ ?_; (focus (first | omega | (simp; done) | (simp; omega)))) | (with_reducible refine bvia (unhide HB6) ?_ ?_; (focus (first | omega | (simp; done) | (simp; omega)))))
  · have hn0 : (en != 0) = true := by simp [h0]
    have HE0 := hide (unhide HE h0)
    go_wp2_with fail
    refine (devFault_any (unhide HD3) en).mono ?_
    rintro e w4 ⟨rfl, hb4⟩
    obtain ⟨hx2, hf2⟩ := block_facts (kept_block hb4 (unhide K3))
    have hs4 := hb4.size
    have HB : Hid (Below w.heap.size w w4) := bvia hb4 (by omega) (unhide HB3)
    clear hb4
    have l2 : w.heap.size + 1 < w4.heap.size := (by omega); have n2 : ¬ w.heap.size + 1 = w4.heap.size := (by omega)
    go_wp2
    refine bodyPost_ret (v := outV (.slice none 0 0) on wait next age en ⟨#[]⟩ (-1)) (by simp [results, Tryz.results134, go_sem, hx2]) rfl (raw_none (by rw [HEN.out, HET.out, HE0.out]) ?_)
    repeat (first | with_reducible exact unhide HB | with_reducible exact Below.refl _ _ | with_reducible refine bdrew ?_ | (with_reducible refine brow ?_ ?_; (focus (first | omega | (simp; done) | (simp; omega)))) | (with_reducible refine bset ?_ ?_; (focus (first | omega | (simp; done) | (simp; omega)))) | (with_reducible refine balloc ?_ ?_; (focus (first | omega | (simp; done) | (simp; omega)))) | (with_reducible refine bvia (unhide HB1) ?_ ?_; (focus (first | omega | (simp; done) | (simp; omega)))) | (with_reducible refine bvia (unhide HB2) ?_ ?_; (focus (first | omega | (simp; done) | (simp; omega)))) | (with_reducible refine bvia (unhide HB3) ?_ ?_; (focus (first | omega | (simp; done) | (simp; omega)))) | (with_reducible refine bvia (unhide HB4) ?_ ?_; (focus (first | omega | (simp; done) | (simp; omega)))) | (with_reducible refine bvia (unhide HB5) ?_ ?_; (focus (first | omega | (simp; done) | (simp; omega)))) | (with_reducible refine bvia (unhide HB6) ?_ ?_; (focus (first | omega | (simp; done) | (simp; omega)))))
set_option maxRecDepth 10000 in
set_option maxHeartbeats 1000000 in
theorem rawOlder_no (hd : DevAt w b t key F on wait next age) (ha : age + 1 < 5) :
    Calls Tryz.prog 158 #[.pointer (some ⟨b, 0, none⟩), recV pg num kp ph tr s0 v0 s1 v1 th] w fun e w' => OutRaw w on wait next (age + 1) 0 ⟨#[]⟩ (-1) [] e w' := by
  have hlt := hd.lt
  have cA := hd.ageC
  have HD := hide hd
  have hge : ¬ (5 : Int) ≤ (age : Int) + 1 := by omega
  have hne : ¬ b = w.heap.size := by omega
  have hne1 : ¬ b = w.heap.size + 1 := by omega
  clear hd
  go_enter Tryz.func158, Tryz.ntmps158
  go_wp2_with fail
  refine (devStill_any (((unhide HD).alloc _).alloc _)).mono ?_
  rintro e w1 ⟨rfl, hb1⟩
  obtain ⟨k1, k2, hs1, hb⟩ := blk2 hb1
  obtain ⟨hx2, hf2⟩ := block_facts k2
  have HB := hide hb
  clear hb hb1 k1 k2
  have l2 : w.heap.size + 1 < w1.heap.size := (by omega); have n2 : ¬ w.heap.size + 1 = w1.heap.size := (by omega)
  go_wp2
  refine bodyPost_ret (v := outV (.slice none 0 0) on wait next ((age : Int) + 1) 0 ⟨#[]⟩ (-1)) (by simp [results, Tryz.results158, go_sem, hx2, l2]) rfl (raw_none rfl ?_)
  repeat (first | with_reducible exact unhide HB | with_reducible exact Below.refl _ _ | with_reducible refine bdrew ?_ | (with_reducible refine brow ?_ ?_; (focus (first | omega | (simp; done) | (simp; omega)))) | (with_reducible refine bset ?_ ?_; (focus (first | omega | (simp; done) | (simp; omega)))) | (with_reducible refine balloc ?_ ?_; (focus (first | omega | (simp; done) | (simp; omega)))) | (with_reducible refine bvia (unhide HB1) ?_ ?_; (focus (first | omega | (simp; done) | (simp; omega)))) | (with_reducible refine bvia (unhide HB2) ?_ ?_; (focus (first | omega | (simp; done) | (simp; omega)))) | (with_reducible refine bvia (unhide HB3) ?_ ?_; (focus (first | omega | (simp; done) | (simp; omega)))) | (with_reducible refine bvia (unhide HB4) ?_ ?_; (focus (first | omega | (simp; done) | (simp; omega)))) | (with_reducible refine bvia (unhide HB5) ?_ ?_; (focus (first | omega | (simp; done) | (simp; omega)))) | (with_reducible refine bvia (unhide HB6) ?_ ?_; (focus (first | omega | (simp; done) | (simp; omega)))))
set_option maxRecDepth 10000 in
set_option maxHeartbeats 1000000 in
theorem rawOlder_yes (hd : DevAt w b t key F on wait next age) (h : RecOk pg num kp ph tr s0 v0 s1 v1 th) (ha : 5 ≤ age + 1) (ha2 : age ≤ 1000) :
    Calls Tryz.prog 158 #[.pointer (some ⟨b, 0, none⟩), recV pg num kp ph tr s0 v0 s1 v1 th] w fun e w' => OutRaw w on wait next (age + 1) 0 ⟨#[]⟩ (-1) [(1 - pg, recP ((num + 1) % 256) kp 0 0 s0 v0 s1 v1 0)] e w' := by
  have hlt := hd.lt
  have cA := hd.ageC
  have HD := hide hd
  have hge : (5 : Int) ≤ (age : Int) + 1 := by omega
  have hne : ¬ b = w.heap.size := by omega
  have hne1 : ¬ b = w.heap.size + 1 := by omega
  have HC := hide (fun W => recSteady_any pg num kp ph tr s0 v0 s1 v1 th W h.1 h.2.1)
  have HR : Hid (∀ (W : World) (_ : DevAt W b t key F on wait next age), Calls Tryz.prog 169 #[.pointer (some ⟨b, 0, none⟩), recV (1 - pg : Nat) ((num + 1) % 256 : Nat) kp (0 : Nat) (0 : Nat) s0 v0 s1 v1 (0 : Nat)] W fun e w' => ∃ (g : Nat) (C : Array Value), e = .returned (.agg C) ∧ Hid (C = outC (.slice (some ⟨g, 0, none⟩) 1 1) on wait next age 0 ⟨#[]⟩ (-1)) ∧ w'.ownsRow W.heap.size 136 2 (.slice (some ⟨g, 0, none⟩) 1 1) 1 (gwCells [(1 - pg, recP ((num + 1) % 256) kp 0 0 s0 v0 s1 v1 0)]) ∧ Below W.heap.size W w') :=
    fun W hW => (recorded_ok (next_ok (p := 0) (q := 0) (k := kp) (t := 0) h (by omega) (by omega) h.2.2.1 (by omega)) hW).mono fun _ _ ⟨g, a, o, bb⟩ => ⟨g, _, a, rfl, o, bb⟩
  clear hd h
  go_enter Tryz.func158, Tryz.ntmps158
  go_wp2_with fail
  refine (devStill_any (((unhide HD).alloc _).alloc _)).mono ?_
  rintro e w1 ⟨rfl, hb1⟩
  obtain ⟨k1, k2, hs1, hb⟩ := blk2 hb1
  have HD1 := hide ((((unhide HD).alloc _).alloc _).kept hb1)
  obtain ⟨hx1, hf1⟩ := block_facts k1
  have K2 := hide k2
  have HB1 := hide hb
  clear hb hb1 k1 k2
  have l1 : w.heap.size < w1.heap.size := (by omega); have n1 : ¬ w.heap.size = w1.heap.size := (by omega)
  have l2 : w.heap.size + 1 < w1.heap.size := (by omega); have n2 : ¬ w.heap.size + 1 = w1.heap.size := (by omega)
  go_wp2_with fail
  refine (unhide HC _).mono ?_
  rintro e w2 ⟨rfl, hb2⟩
  clear hx1 hf1
  have HD2 := hide (((unhide HD1).alloc _).kept hb2)
  have k2 := kept_block hb2 (alloc_block (unhide K2) _)
  obtain ⟨k3, hs2, hb⟩ := blk1 hb2
  have K2' := hide k2
  have K3 := hide k3
  have HB2 := hide hb
  clear hb hb2 k2 k3 K2
  generalize hN : (num + 1) % 256 = N at *; generalize hP : 1 - pg = P at *; have HN := hide hN; have HP := hide hP; clear hN hP
  go_wp2_with fail
  refine (unhide HR _ (unhide HD2)).mono ?_
  rintro e w3 ⟨g, C, rfl, HC, hown, hb3⟩
  have hC8 : C.size = 8 := by rw [HC.out]; rfl
  have hCn : ¬ C = #[] := fun e => by rw [e] at hC8; exact absurd hC8 (by decide)
  have hst := store_row (c := C) (kept_block hb3 (unhide K3)) (ty := 163) (by rw [out_info, hC8]) (by rw [hC8]; rfl) (by rw [HC.out]; simp [Value.oneCell'])
  have hr1 := row_in (C := C) (kept_block hb3 (unhide K3))
  have hx3 : ∀ o, (w3.setRow w1.heap.size C).cell? ⟨w1.heap.size, o, none⟩ = (outC (.slice (some ⟨g, 0, none⟩) 1 1) on wait next age 0 ⟨#[]⟩ (-1))[o]? := fun o => by rw [(block_facts hr1).1 o, HC.out]
  have hf3 := (block_facts hr1).2
  obtain ⟨hx2, hf2⟩ := block_facts (row_else (C := C) (g := w1.heap.size) (by omega) (kept_block hb3 (unhide K2')))
  have hz3 := row_size w3 w1.heap.size C
  have hs3 := hb3.size
  have HO : Hid (w3.ownsRow w2.heap.size 136 2 (.slice (some ⟨g, 0, none⟩) 1 1) 1 (gwCells [(P, recP N kp 0 0 s0 v0 s1 v1 0)])) := hown
  have HB3 := hide hb3
  clear hown hb3 hr1
  have l3 : w.heap.size + 1 < w3.heap.size := (by omega); have n3 : ¬ w.heap.size + 1 = w3.heap.size := (by omega)
  have l4 : w1.heap.size < w3.heap.size := (by omega); have n4 : ¬ w1.heap.size = w3.heap.size := (by omega)
  go_wp2
  refine bodyPost_ret (v := outV (.slice (some ⟨g, 0, none⟩) 1 1) on wait next ((age : Int) + 1) 0 ⟨#[]⟩ (-1)) (by simp [results, Tryz.results158, go_sem, hx2]) rfl ⟨some ⟨g, 0, none⟩, 1, rfl, ?_, ?_⟩
  · rw [HN.out, HP.out]
    refine ownsRow_base (base' := w2.heap.size) ?_ (by omega)
    iterate 8 refine ownsRow_setCell_below ?_ (by show w.heap.size + 1 < w2.heap.size; omega) _
    refine ownsRow_setCell_below ?_ (by show w1.heap.size < w2.heap.size; omega) _
    exact own_row (unhide HO) (by omega) C
  · repeat (first | with_reducible exact unhide HB | with_reducible exact Below.refl _ _ | with_reducible refine bdrew ?_ | (with_reducible refine brow ?_ ?_; (focus (first | omega | (simp; done) | (simp; omega)))) | (with_reducible refine bset ?_ ?_; (focus (first | omega | (simp; done) | (simp; omega)))) | (with_reducible refine balloc ?_ ?_; (focus (first | omega | (simp; done) | (simp; omega)))) | (with_reducible refine bvia (unhide HB1) ?_ ?_; (focus (first | omega | (simp; done) | (simp; omega)))) | (with_reducible refine bvia (unhide HB2) ?_ ?_; (focus (first | omega | (simp; done) | (simp; omega)))) | (with_reducible refine bvia (unhide HB3) ?_ ?_; (focus (first | omega | (simp; done) | (simp; omega)))) | (with_reducible refine bvia (unhide HB4) ?_ ?_; (focus (first | omega | (simp; done) | (simp; omega)))) | (with_reducible refine bvia (unhide HB5) ?_ ?_; (focus (first | omega | (simp; done) | (simp; omega)))) | (with_reducible refine bvia (unhide HB6) ?_ ?_; (focus (first | omega | (simp; done) | (simp; omega)))))
end
end Go.Proofs.YtjfmiomopfjecabGreat

/- A patch that is measured, and what comes out: delta.measure, delta.Apply, slots.Patch. -/
namespace Go.Proofs.YtjfmiomopfjecabGreat
open Go.RowKit Go.Lib

theorem stepFits_any (b p : ByteArray) (i : Nat) (w : World) (hb : b.size ≤ 2000000) (h3 : M.bz p i ≤ 3) :
    Calls Tryz.prog 207 #[stepV p i, .string b] w fun e w' => e = .returned (.bool (M.opFits b p i)) ∧ Below w.heap.size w w' := by
  have b1 := M.bz_lt p (i + 1)
  have b2 := M.bz_lt p (i + 2)
  unfold stepV
  by_cases h : M.bz p i = 0 ∨ M.bz p i = 3
  · have e1 : opAt p i = M.bz p (i + 1) := by rcases h with h | h <;> simp [opAt, h]
    have e2 : M.opCount p i = M.bz p (i + 2) := by rcases h with h | h <;> simp [M.opCount, h]
    have e3 : M.opFits b p i = decide (M.bz p (i + 1) + M.bz p (i + 2) ≤ b.size) := by rcases h with h | h <;> simp [M.opFits, h]
    rw [e1, e2, e3]
    exact fits_base _ _ _ _ b w h b1 b2 hb
  · have e3 : M.opFits b p i = true := by
      unfold M.opFits
      rw [decide_eq_false (fun x => h (.inl x)), decide_eq_false (fun x => h (.inr x))]; rfl
    rw [e3]
    exact fits_own _ _ _ _ b w (by omega)

def measV (b p : ByteArray) : Value := match M.goFrom b p 0 ⟨#[]⟩ with | some o => .tuple #[.int .i64 o.size, .bool true] | none => .tuple #[.int .i64 0, .bool false]
theorem measV_some {b p o : ByteArray} (h : M.goFrom b p 0 ⟨#[]⟩ = some o) : measV b p = .tuple #[.int .i64 o.size, .bool true] := by unfold measV; rw [h]
theorem measV_none {b p : ByteArray} (h : M.goFrom b p 0 ⟨#[]⟩ = none) : measV b p = .tuple #[.int .i64 0, .bool false] := by unfold measV; rw [h]
theorem ret_val {a b : Value} (h : a = b) : Ending.returned a = .returned b := by rw [h]
theorem opOk_of {b p : ByteArray} {i : Nat} (h1 : M.opThere p i = true) (h2 : M.opFits b p i = true) : M.opOk b p i = true := by unfold M.opOk; rw [h1, h2]; rfl
theorem there_what {p : ByteArray} {i : Nat} (h : M.opThere p i = true) : M.bz p i ≤ 3 ∧ i + M.opLen p i ≤ p.size := by
  unfold M.opThere at h
  simp only [Bool.and_eq_true, decide_eq_true_eq] at h
  exact h

set_option maxHeartbeats 800000 in
theorem measure_any (b p : ByteArray) (w : World) (hp : p.size ≤ 2000000) (hb : b.size ≤ 2000000) :
    Calls Tryz.prog 204 #[.string b, .string p] w fun e w' => e = .returned (measV b p) ∧ Below w.heap.size w w' := by
  go_enter Tryz.func204, Tryz.ntmps204
  go_wp2_with fail
  go_loopw [6, 7] (fun s i wr => ∃ (k z : Nat) (o : ByteArray), k ≤ p.size ∧ i = .int .i64 k ∧ s = .int .i64 z ∧ Hid (o.size = z) ∧ Hid (M.goFrom b p k o = M.goFrom b p 0 ⟨#[]⟩) ∧ z ≤ 255 * k ∧ Below w.heap.size w wr) (fun _ i _ => p.size - (intOf i).toNat)
  case atStart => exact ⟨0, 0, ⟨#[]⟩, by omega, rfl, rfl, rfl, rfl, by omega, Below.refl _ _⟩
  case round =>
    obtain ⟨k, z, o, hk, rfl, rfl, hz, hgo, hzk, hbel⟩ := hrel
    have hsz := hbel.size
    have HB := hide hbel
    clear hbel
    by_cases hlt : k < p.size
    · go_wp2_with fail
      refine (read_any p k _ hp hlt).mono ?_
      rintro e w1 ⟨hy, hno, hb1⟩
      have HB1 := hide ((unhide HB).trans (hb1.mono hsz))
      have hsz1 := hb1.size
      cases hth : M.opThere p k
      · obtain rfl := hno hth
        have HEND := hide (measV_none (hgo.out.symm.trans (M.goFrom_no hlt (by unfold M.opOk; rw [hth]; rfl))))
        clear hth hy hno hb1
        unfold stepNo
        go_wp2
        go_ret2
        exact ⟨ret_val HEND.out.symm, (unhide HB1).alloc (by omega) _⟩
      · obtain rfl := hy hth
        obtain ⟨hwh, hle⟩ := there_what hth
        have HTH := hide hth
        clear hth hy hno hb1
        have hl2 := M.opLen_two p k
        have hl3 := M.opLen_le p k
        have hc := M.opCount_le p k
        have HC := hide (M.opGives_size b p k)
        have HSTEP := hide (fun h => M.goFrom_ok (b := b) (o := o) hlt (opOk_of (unhide HTH) h))
        have HSTOP := hide (fun (h : M.opFits b p k = false) => measV_none (hgo.out.symm.trans (M.goFrom_no hlt (by unfold M.opOk; rw [h, Bool.and_false]))))
        have HFIT := hide (fun w => stepFits_any b p k w hb hwh)
        unfold stepV at HFIT ⊢
        generalize M.opLen p k = l at *
        generalize M.opCount p k = c at *
        generalize opAt p k = a at *
        generalize opOwn p k = t at *
        generalize M.bz p k = x at *
        go_wp2_with fail
        refine (unhide HFIT _).mono ?_
        rintro e w2 ⟨rfl, hb2⟩
        have hc2 : w2.cell? ⟨w1.heap.size, 2, none⟩ = some (.int .i64 c) := (hb2.cell (p := ⟨w1.heap.size, 2, none⟩) (by simp)).trans (by simp)
        have hsz2 := hb2.size
        simp only [World.size_alloc] at hsz2
        have HB2 : Hid (Below w.heap.size w w2) := ((unhide HB1).alloc (by omega) _).trans (hb2.mono (by simp; omega))
        clear hb2 HFIT
        cases hf : M.opFits b p k
        · have HEND := hide (HSTOP.out hf)
          clear hf
          go_wp2
          go_ret2
          exact ⟨ret_val HEND.out.symm, unhide HB2⟩
        · have HNEW := hide ((HSTEP.out hf).symm.trans hgo.out)
          have HZN : Hid ((o ++ M.opGives b p k).size = z + c) := by rw [ByteArray.size_append, hz.out, HC.out]; rfl
          clear hf
          go_wp2
          go_roundw
          case rel => exact ⟨k + l, z + c, o ++ M.opGives b p k, by omega, rfl, by go_num, HZN, HNEW, by omega, unhide HB2⟩
          case measure => simp [intOf]; omega
    · have hkn : k = p.size := by omega
      have HEND := hide (measV_some (hgo.out.symm.trans (M.goFrom_end (by omega))))
      go_wp2
      go_ret2
      exact ⟨ret_val (by rw [HEND.out, hz.out]; rfl), unhide HB⟩

theorem res_none {b p : ByteArray} {n : Int} (h : M.goFrom b p 0 ⟨#[]⟩ = none) : M.patchRes b p n = none := by unfold M.patchRes; rw [h]; rfl
theorem res_size {b p o : ByteArray} {n : Int} (h : M.goFrom b p 0 ⟨#[]⟩ = some o) (hn : ¬ (o.size : Int) = n) : M.patchRes b p n = none := by
  unfold M.patchRes; rw [h]
  simp [Option.filter, hn]
theorem res_some {b p o : ByteArray} {n : Int} (h : M.goFrom b p 0 ⟨#[]⟩ = some o) (hn : (o.size : Int) = n) : M.patchRes b p n = some o := by
  unfold M.patchRes; rw [h]
  simp [Option.filter, hn]
def applyV (b p : ByteArray) (n : Int) : Value := match M.patchRes b p n with | some o => .tuple #[.string o, .bool true] | none => .tuple #[.string ⟨#[]⟩, .bool false]
theorem applyV_some {b p o : ByteArray} {n : Int} (h : M.patchRes b p n = some o) : applyV b p n = .tuple #[.string o, .bool true] := by unfold applyV; rw [h]
theorem applyV_none {b p : ByteArray} {n : Int} (h : M.patchRes b p n = none) : applyV b p n = .tuple #[.string ⟨#[]⟩, .bool false] := by unfold applyV; rw [h]

set_option maxHeartbeats 800000 in
theorem apply_any (b p : ByteArray) (n : Int) (w : World) (hp : p.size ≤ 2000000) (hb : b.size ≤ 2000000) :
    Calls Tryz.prog 201 #[.string b, .string p, .int .i64 n] w fun e w' => e = .returned (applyV b p n) ∧ Below w.heap.size w w' := by
  go_enter Tryz.func201, Tryz.ntmps201
  go_wp2_with fail
  refine (measure_any b p _ hp hb).mono ?_
  rintro e w0 ⟨rfl, hb0⟩
  have HB0 := hide hb0
  have hsz0 := hb0.size
  clear hb0
  cases hg : M.goFrom b p 0 ⟨#[]⟩ with
  | none =>
    have HEND := hide (applyV_none (res_none (n := n) hg))
    rw [measV_none hg]
    clear hg
    go_wp2
    go_ret2
    exact ⟨ret_val HEND.out.symm, unhide HB0⟩
  | some R =>
    rw [measV_some hg]
    by_cases hn : (R.size : Int) = n
    · have HEND := hide (applyV_some (res_some hg hn))
      have hne : ((R.size : Int) != n) = false := by rw [bne_eq_false_iff_eq]; exact hn
      have HG := hide hg
      clear hg hn
      go_wp2_with fail
      go_loopw [10, 11] (fun v i wr => ∃ (k : Nat) (o : ByteArray), k ≤ p.size ∧ i = .int .i64 k ∧ Hid (M.goFrom b p k o = some R) ∧ o.size ≤ 255 * k ∧ wr.ownsRow w.heap.size 5 1 v o.size (strCells o) ∧ Below w.heap.size w wr) (fun _ i _ => p.size - (intOf i).toNat)
      case atStart => exact ⟨0, ⟨#[]⟩, by omega, rfl, HG, by show 0 ≤ _; omega, World.ownsRow_nil _ _ _ _, unhide HB0⟩
      case round =>
        clear HB0 HG hsz0
        obtain ⟨k, o, hk, rfl, hgo, hzk, hown, hbel⟩ := hrel
        have hsz := hbel.size
        have HB := hide hbel
        have HO := hide hown
        clear hbel
        by_cases hlt : k < p.size
        · clear hown
          cases hok : M.opOk b p k
          · have := M.goFrom_no (o := o) hlt hok
            rw [hgo.out] at this
            cases this
          · have hth : M.opThere p k = true := by
              unfold M.opOk at hok
              simp only [Bool.and_eq_true] at hok
              exact hok.1
            obtain ⟨hwh, hle⟩ := there_what hth
            go_wp2_with fail
            refine (read_any p k _ hp hlt).mono ?_
            rintro e w1 ⟨hy, hno, hb1⟩
            have HB1 := hide ((unhide HB).trans (hb1.mono hsz))
            have hsz1 := hb1.size
            have HO1 := hide (ownsRow_below (unhide HO) hb1)
            obtain rfl := hy hth
            clear hth hy hno hb1
            have hl2 := M.opLen_two p k
            have hl3 := M.opLen_le p k
            have hc := M.opCount_le p k
            have HC := hide (M.opGives_size b p k)
            have HNEW := hide ((M.goFrom_ok (o := o) hlt hok).symm.trans hgo.out)
            have HGIV := hide (fun w => gives_any b p k w hb hok)
            clear hok
            unfold stepV at HGIV ⊢
            generalize M.opLen p k = l at *
            generalize M.opCount p k = c at *
            generalize opAt p k = a at *
            generalize opOwn p k = t at *
            generalize M.bz p k = x at *
            go_wp2_with fail
            refine (unhide HGIV _).mono ?_
            rintro e w2 ⟨rfl, hb2⟩
            have hsz2 := hb2.size
            simp only [World.size_alloc] at hsz2
            have HB2 : Hid (Below w.heap.size w w2) := ((unhide HB1).alloc (by omega) _).trans (hb2.mono (by simp; omega))
            have HO2 := hide (ownsRow_below ((unhide HO1).alloc _) hb2)
            clear hb2 HGIV
            generalize M.opGives b p k = g at *
            have HZN : Hid ((o ++ g).size ≤ 255 * (k + l)) := by rw [ByteArray.size_append, HC.out]; show _ ≤ _; omega
            go_wp2_with (at_builtin; (refine append_text _ rfl (.tmp 41) (.tmp 44) rfl w.heap.size u10 o g rfl rfl (unhide HO2) (by rw [HC.out]; omega) (by omega) ?_); intro v' w3 hown3 hbel3 hsz3)
            have HR := hide hown3
            have HB3 := hide (hbel3 _ (unhide HB2))
            clear hown3 hbel3
            go_wp2
            go_roundw
            case rel => exact ⟨k + l, o ++ g, by omega, rfl, HNEW, unhide HZN, unhide HR, unhide HB3⟩
            case measure => simp [intOf]; omega
        · have hr := row_text _ _ _ _ hown
          have HE : Hid (o = R) := by
            have := hgo.out
            rw [M.goFrom_end (by omega)] at this
            exact Option.some.inj this
          clear hown
          go_wp2
          go_ret2
          exact ⟨ret_val (by rw [HEND.out, ← HE.out]; rfl), unhide HB⟩
    · have HEND := hide (applyV_none (res_size hg hn))
      have hne : ((R.size : Int) != n) = true := by rw [bne_iff_ne]; exact hn
      clear hg hn
      go_wp2
      go_ret2
      exact ⟨ret_val HEND.out.symm, unhide HB0⟩

theorem txt_some {b p o : ByteArray} {n : Int} (h : M.patchRes b p n = some o) : M.patchTxt b p n = o ∧ M.patchNum b p n = 0 := by
  unfold M.patchTxt M.patchNum
  rw [h]
  exact ⟨rfl, rfl⟩
theorem txt_none {b p : ByteArray} {n : Int} (h : M.patchRes b p n = none) : M.patchTxt b p n = ⟨#[]⟩ ∧ M.patchNum b p n = 4 := by
  unfold M.patchTxt M.patchNum
  rw [h]
  exact ⟨rfl, rfl⟩
theorem ret_txt {a b : ByteArray} {c d : Int} (h : a = b ∧ c = d) : Ending.returned (.tuple #[.string b, .int .i64 d]) = .returned (.tuple #[.string a, .int .i64 c]) := by rw [h.1, h.2]
end Go.Proofs.YtjfmiomopfjecabGreat

/- The new image is put together. -/
namespace Go.Proofs.YtjfmiomopfjecabGreat
open Go.RowKit Go.Lib

/-- what is put together, as the program does it -/
def builtO (base : ByteArray) (F : Nat → Nat) : Nat × ByteArray :=
  match M.patchRes base (M.mk (M.mf F 4) fun j => F (80 + j)) (M.mf F 5) with
  | none => (4, ⟨#[]⟩)
  | some o => if M.crc o.data.toList ≠ M.numAt (M.mf F) 6 then (15, ⟨#[]⟩) else if M.isImage o = false then (1, ⟨#[]⟩) else if passB (M.mf F) o = false then (16, ⟨#[]⟩) else (0, o)
theorem builtO_is (F : Nat → Nat) : M.builtN F = builtO (M.imgOf F (M.fld F 1)) F := by
  unfold M.builtN builtO
  dsimp only
  cases h : M.patchRes (M.imgOf F (M.fld F 1)) (M.mk (M.mf F 4) fun j => F (80 + j)) (M.mf F 5) with
  | none => rw [if_pos (by rw [(txt_none h).2]; decide)]
  | some o =>
    rw [(txt_some h).1, (txt_some h).2, if_neg (by decide), show M.mf F 6 * 256 + M.mf F 7 = M.numAt (M.mf F) 6 from rfl]
    dsimp only
    by_cases hc : M.crc o.data.toList ≠ M.numAt (M.mf F) 6
    · rw [if_pos hc, if_pos hc]
    · rw [if_neg hc, if_neg hc]
      cases hi : M.isImage o
      · rw [if_pos rfl, if_pos rfl]
      · rw [if_neg (show ¬ (true = false) by decide), if_neg (show ¬ (true = false) by decide)]
        by_cases ht : M.mf F (8 + 2 * M.chunksN (M.mf F 4)) = 1
        · have q : M.exQ (M.mf F) = M.mk (M.mf F (8 + 2 * M.chunksN (M.mf F 4) + 1)) fun j => M.mf F (8 + 2 * M.chunksN (M.mf F 4) + 3 + j) := by
            unfold M.exQ
            rw [if_pos ht, show 9 + 2 * M.chunksN (M.mf F 4) = 8 + 2 * M.chunksN (M.mf F 4) + 1 from by omega, show 11 + 2 * M.chunksN (M.mf F 4) = 8 + 2 * M.chunksN (M.mf F 4) + 3 from by omega]
          have a : M.exA (M.mf F) = M.mk (M.mf F (8 + 2 * M.chunksN (M.mf F 4) + 2)) fun j => M.mf F (8 + 2 * M.chunksN (M.mf F 4) + 3 + M.mf F (8 + 2 * M.chunksN (M.mf F 4) + 1) + j) := by
            unfold M.exA
            rw [if_pos ht, show 9 + 2 * M.chunksN (M.mf F 4) = 8 + 2 * M.chunksN (M.mf F 4) + 1 from by omega, show 10 + 2 * M.chunksN (M.mf F 4) = 8 + 2 * M.chunksN (M.mf F 4) + 2 from by omega, show 11 + 2 * M.chunksN (M.mf F 4) = 8 + 2 * M.chunksN (M.mf F 4) + 3 from by omega]
          have x : M.exB (M.mf F) = true := decide_eq_true ht
          have e : passB (M.mf F) o = (decide (evalNum o (M.exQ (M.mf F)) = 0) && decide (evalTxt o (M.exQ (M.mf F)) = M.exA (M.mf F))) := by unfold passB; rw [x]; rfl
          rw [← q, ← a, e]
          by_cases h1 : evalNum o (M.exQ (M.mf F)) = 0
          · by_cases h2 : evalTxt o (M.exQ (M.mf F)) = M.exA (M.mf F)
            · rw [if_neg (fun h => h.2.elim (fun h => h h1) (fun h => h h2)), if_neg (by rw [decide_eq_true h1, decide_eq_true h2]; decide)]
            · rw [if_pos ⟨ht, .inr h2⟩, if_pos (by rw [decide_eq_false h2]; simp)]
          · rw [if_pos ⟨ht, .inl h1⟩, if_pos (by rw [decide_eq_false h1]; simp)]
        · have x : M.exB (M.mf F) = false := decide_eq_false ht
          have e : passB (M.mf F) o = true := by unfold passB; rw [x]; rfl
          rw [if_neg (fun h => ht h.1), if_neg (by rw [e]; decide)]
theorem res_len {b p o : ByteArray} {n : Int} (h : M.patchRes b p n = some o) : (o.size : Int) = n := by
  unfold M.patchRes at h
  have := (Option.filter_eq_some_iff.1 h).2
  simpa using this
section
variable {pg num kp ph tr s0 v0 s1 v1 th : Nat} {w : World} {b : Nat} {t : TypeId} {key : ByteArray} {F : Nat → Nat} {on : Bool} {wait next age : Nat}
set_option maxRecDepth 10000 in
set_option maxHeartbeats 1000000 in
theorem rawBuilt (hd : DevAt w b t key F on wait next age) (hF : ∀ j, F j < 256) (hk : kp ≤ 1) (hn : pickN kp s0 s1 ≤ 96) (h4 : M.mf F 4 ≤ 96) (h5 : M.mf F 5 ≤ 96) (hq : (M.exQ (M.mf F)).size ≤ maxLen) (base : ByteArray) (hb : (M.mk (pickN kp s0 s1) fun j => F (16 * (11 + 6 * kp) + j)) = base) (ao : Option Addr) (n cap : Nat) :
    Calls Tryz.prog 195 #[.pointer (some ⟨b, 0, none⟩), recV pg num kp ph tr s0 v0 s1 v1 th, manOf (M.mf F) (.slice ao n cap)] w fun e w' => e = .returned (.tuple #[.string (builtO base F).2, .int .i64 (builtO base F).1]) ∧ Below w.heap.size w w' := by
  have hbs : base.size ≤ 96 := by rw [← hb, M.mk_size]; exact hn
  have HD := hide hd
  have HF := hide hF
  have HI := hide (fun (W : World) (hW : DevAt W b t key F on wait next age) => devImage_any (pg := pg) (num := num) (kp := kp) (ph := ph) (tr := tr) (v0 := v0) (v1 := v1) (th := th) hW hF kp hk hn)
  rw [hb] at HI
  have HPA := hide (fun (W : World) (s : ByteArray) hs => manPassed_any (M.mf F) (.slice ao n cap) s W hs hq)
  have HBO : Hid (builtO base F = match M.patchRes base (M.mk (M.mf F 4) fun j => F (80 + j)) (M.mf F 5) with
    | none => (4, ⟨#[]⟩)
    | some o => if M.crc o.data.toList ≠ M.numAt (M.mf F) 6 then (15, ⟨#[]⟩) else if M.isImage o = false then (1, ⟨#[]⟩) else if passB (M.mf F) o = false then (16, ⟨#[]⟩) else (0, o)) := rfl
  clear hd hF hb hn hq
  unfold manOf at *
  generalize builtO base F = BO at *
  generalize passB (M.mf F) = PB at *
  generalize M.numAt (M.mf F) 0 = a0 at *
  generalize M.numAt (M.mf F) 2 = a2 at *
  generalize M.numAt (M.mf F) 6 = a6 at *
  generalize M.exB (M.mf F) = x1 at *
  generalize M.exQ (M.mf F) = x2 at *
  generalize M.exA (M.mf F) = x3 at *
  go_enter Tryz.func195, Tryz.ntmps195
  go_wp2_with fail
  refine (unhide HI _ (((unhide HD).alloc _).alloc _)).mono ?_
  rintro e w1 ⟨rfl, hb1⟩
  obtain ⟨k1, k2, hs1, hb⟩ := blk2 hb1
  have HD1 := hide ((((unhide HD).alloc _).alloc _).kept hb1)
  have hc2 : w1.cell? ⟨w.heap.size + 1, 2, none⟩ = some (.int .i64 (M.mf F 4)) := (block_facts k2).1 2
  have K2 := hide k2
  have HB1 := hide hb
  clear hb hb1 k1 k2
  go_wp2_with fail
  go_region_held3 (fun X => X.cell? ⟨w.heap.size + 1, 2, none⟩ = some (.int .i64 (M.mf F 4))) (go_keep) ((go_at_call 112; refine (flashText_in ((unhide HD1).drew) (unhide HF) 5 (M.mf F 4) _ _ (by omega) (by omega) rfl rfl).mono ?_; rintro e w' ⟨rfl, rfl⟩))
  have hps : (M.mk (M.mf F 4) fun j => F (80 + j)).size ≤ 96 := by rw [M.mk_size]; exact h4
  generalize (M.mk (M.mf F 4) fun j => F (80 + j)) = patch at *
  obtain ⟨hx2, hf2⟩ := block_facts (unhide K2)
  clear hc2
  go_wp2_with fail
  refine (apply_any base patch _ _ (by omega) (by omega)).mono ?_
  rintro e w2 ⟨rfl, hb2⟩
  have K3 := hide (kept_block hb2 (drew_block (unhide K2)))
  have HD2 := hide (((unhide HD1).drew).kept hb2)
  have hs2 := hb2.size
  simp at hs2
  have HB2 : Hid (Below w.heap.size w w2) := by
    show Below _ _ _
    refine bvia hb2 (by simp; omega) ?_
    repeat (first | with_reducible exact unhide HB | with_reducible exact Below.refl _ _ | with_reducible refine bdrew ?_ | (with_reducible refine brow ?_ ?_; (focus (first | omega | (simp; done) | (simp; omega)))) | (with_reducible refine bset ?_ ?_; (focus (first | omega | (simp; done) | (simp; omega)))) | (with_reducible refine balloc ?_ ?_; (focus (first | omega | (simp; done) | (simp; omega)))) | (with_reducible refine bvia (unhide HB1) ?_ ?_; (focus (first | omega | (simp; done) | (simp; omega)))) | (with_reducible refine bvia (unhide HB2) ?_ ?_; (focus (first | omega | (simp; done) | (simp; omega)))) | (with_reducible refine bvia (unhide HB3) ?_ ?_; (focus (first | omega | (simp; done) | (simp; omega)))) | (with_reducible refine bvia (unhide HB4) ?_ ?_; (focus (first | omega | (simp; done) | (simp; omega)))) | (with_reducible refine bvia (unhide HB5) ?_ ?_; (focus (first | omega | (simp; done) | (simp; omega)))) | (with_reducible refine bvia (unhide HB6) ?_ ?_; (focus (first | omega | (simp; done) | (simp; omega)))))
  clear hb2 HB1 HD1 K2 hx2 hf2
  cases hres : M.patchRes base patch (M.mf F 5) with
  | none =>
    rw [applyV_none hres]
    have HB0 : Hid (BO = (4, ⟨#[]⟩)) := by have := HBO.out; rw [hres] at this; exact this
    clear HBO hres
    go_wp2
    go_ret2
    exact ⟨ret_two (by rw [HB0.out]) (by rw [HB0.out]; rfl), unhide HB2⟩
  | some o =>
    rw [applyV_some hres]
    have hos : o.size ≤ 96 := by have := res_len hres; omega
    have HBO' : Hid (BO = if M.crc o.data.toList ≠ a6 then (15, ⟨#[]⟩) else if M.isImage o = false then (1, ⟨#[]⟩) else if PB o = false then (16, ⟨#[]⟩) else (0, o)) := by have := HBO.out; rw [hres] at this; exact this
    have HSM := hide (fun W => sumOf_any o W (by unfold maxLen; omega))
    clear HBO hres
    have hc4 : w2.cell? ⟨w.heap.size + 1, 4, none⟩ = some (.int .i64 a6) := (block_facts (unhide K3)).1 4
    generalize hC : M.crc o.data.toList = C at *
    clear hC
    go_wp2_with fail
    go_region_held3 (fun X => X.cell? ⟨w.heap.size + 1, 4, none⟩ = some (.int .i64 a6)) (go_keep) ((go_at_call 187; refine (unhide HSM _).mono ?_; rintro e w' ⟨rfl, rfl⟩))
    by_cases hcr : C = a6
    · have g1 : ((C : Int) != (a6 : Int)) = false := by simp; omega
      have HBO2 : Hid (BO = if M.isImage o = false then (1, ⟨#[]⟩) else if PB o = false then (16, ⟨#[]⟩) else (0, o)) := by have := HBO'.out; rw [if_neg (fun h => h hcr)] at this; exact this
      clear HBO' hc4 hcr
      go_wp2_with fail
      refine (netCheck_any o _ (by unfold maxLen; omega)).mono ?_
      rintro e w3 ⟨rfl, hb3⟩
      have K4 := hide (kept_block hb3 (drew_block (unhide K3)))
      have hs3 := hb3.size
      simp at hs3
      have HB3 : Hid (Below w.heap.size w w3) := bvia hb3 (by simp; omega) ((unhide HB2).drew)
      clear hb3 K3 HB2
      cases him : M.isImage o
      · have HCN : Hid (checkNum o = 1) := by show _ = _; unfold checkNum; rw [him]; rfl
        rw [HCN.out]
        have HB0 : Hid (BO = (1, ⟨#[]⟩)) := by have := HBO2.out; rw [him, if_pos rfl] at this; exact this
        go_wp2
        go_ret2
        exact ⟨ret_two (by rw [HB0.out]) (by rw [HB0.out]; rfl), unhide HB3⟩
      · have HCN : Hid (checkNum o = 0) := by show _ = _; unfold checkNum; rw [him]; rfl
        rw [HCN.out]
        have HBO3 : Hid (BO = if PB o = false then (16, ⟨#[]⟩) else (0, o)) := by have := HBO2.out; rw [him, if_neg (by decide)] at this; exact this
        obtain ⟨hx2, hf2⟩ := block_facts (unhide K4)
        clear HBO2 him
        go_wp2_with fail
        refine (unhide HPA _ o (by unfold maxLen; omega)).mono ?_
        rintro e w4 ⟨rfl, hb4⟩
        have HB4 : Hid (Below w.heap.size w w4) := bvia hb4 (by omega) (unhide HB3)
        clear hb4
        cases hpb : PB o
        · have HB0 : Hid (BO = (16, ⟨#[]⟩)) := by have := HBO3.out; rw [hpb, if_pos rfl] at this; exact this
          go_wp2
          go_ret2
          exact ⟨ret_two (by rw [HB0.out]) (by rw [HB0.out]; rfl), unhide HB4⟩
        · have HB0 : Hid (BO = (0, o)) := by have := HBO3.out; rw [hpb, if_neg (by decide)] at this; exact this
          go_wp2
          go_ret2
          exact ⟨ret_two (by rw [HB0.out]) (by rw [HB0.out]; rfl), unhide HB4⟩
    · have g1 : ((C : Int) != (a6 : Int)) = true := by simp; omega
      have HB0 : Hid (BO = (15, ⟨#[]⟩)) := by have := HBO'.out; rw [if_pos hcr] at this; exact this
      clear HBO' hc4 hcr
      go_wp2
      go_ret2
      exact ⟨ret_two (by rw [HB0.out]) (by rw [HB0.out]; rfl), (unhide HB2).drew⟩
end
end Go.Proofs.YtjfmiomopfjecabGreat

/- Events over the numbers of a record: a manifest is offered. -/
namespace Go.Proofs.YtjfmiomopfjecabGreat
open Go.RowKit Go.Lib

theorem gwCells_append (l r : List GW) : gwCells (l ++ r) = gwCells l ++ gwCells r := by simp [gwCells]
/-- pages behind pages, in a row of the call's own -/
theorem append_writes {ops : Array Oper} {rest : List Oper} {o : Oper} {a : Act} {Q : Exit → Act → World → Prop} (w : World) (hgd : o.guard = none) (s x : Operand)
    (ho : o.op = .call { callee := .builtin .append, args := #[s, x], argTypes := #[127, 127] })
    (base : Nat) (v : Value) (l r : List GW) (g cap : Nat) (hs : a.eval s = v) (hx : a.eval x = .slice (some ⟨g, 0, none⟩) r.length cap)
    (hown : w.ownsRow base 136 2 v l.length (gwCells l)) (hrow : ∀ j u, (gwCells r)[j]? = some u → w.cell? ⟨g, j, none⟩ = some u) (hn : l.length + r.length ≤ 1000000) (hbase : base ≤ w.heap.size)
    (h : ∀ v' w', w'.ownsRow base 136 2 v' (l ++ r).length (gwCells (l ++ r)) → (∀ w0, Below base w0 w → Below base w0 w') → w.heap.size ≤ w'.heap.size → wpList Tryz.prog ops Q rest (a.put o.dst v') w') :
    wpList Tryz.prog ops Q (o :: rest) a w := by
  obtain ⟨i0, hi, hz0, hz1, hz2⟩ := info_parts infoW
  refine wpList_append_own w hgd s x 127 ho base 136 i0 _ 2 24 Tryz.underlying127 hi hz0 hz1 hz2 rfl (by decide) v l.length (gwCells l) hs hown ⟨g, 0, none⟩ r.length cap (gwCells r) hx (by rw [gwCells_length]; omega) ?_ ?_ (by unfold maxLen; omega) ?_ hbase ?_
  · intro j u hj
    rw [add_at]
    exact hrow j u hj
  · intro u hu
    unfold gwCells at hu
    simp only [List.mem_flatMap, List.mem_cons, List.not_mem_nil, or_false] at hu
    obtain ⟨y, _, rfl | rfl⟩ := hu <;> rfl
  · exact Nat.le_trans (Nat.mul_le_mul hn (Nat.le_refl _)) (by omega)
  · intro v' w' hown' hgrow _
    refine h v' w' ?_ (fun w0 hb0 => hb0.grown hgrow hbase (fun k hk => (hown.lt k hk).1)) hgrow.size
    rw [List.length_append, gwCells_append]
    exact hown'
section
variable {pg num kp ph tr s0 v0 s1 v1 th : Nat} {w : World} {b : Nat} {t : TypeId} {key : ByteArray} {F : Nat → Nat} {on : Bool} {wait next age : Nat}
set_option maxRecDepth 10000 in
theorem rawOffer_busy (hd : DevAt w b t key F on wait next age) (s : ByteArray) :
    Calls Tryz.prog 135 #[.pointer (some ⟨b, 0, none⟩), recV pg num kp 2 tr s0 v0 s1 v1 th, .string s] w fun e w' => OutRaw w on wait next age 11 ⟨#[]⟩ (-1) [] e w' := by
  have HD := hide hd
  clear hd
  go_enter Tryz.func135, Tryz.ntmps135
  go_wp2_with fail
  refine (devFault_any (((unhide HD).alloc _).alloc _) 11).mono ?_
  rintro e w1 ⟨rfl, hb1⟩
  obtain ⟨k1, k2, hs1, hb⟩ := blk2 hb1
  obtain ⟨hx2, hf2⟩ := block_facts k2
  have HB := hide hb
  clear hb hb1 k1 k2
  have l2 : w.heap.size + 1 < w1.heap.size := (by omega); have n2 : ¬ w.heap.size + 1 = w1.heap.size := (by omega)
  go_wp2
  refine bodyPost_ret (v := outV (.slice none 0 0) on wait next age 11 ⟨#[]⟩ (-1)) (by simp [results, Tryz.results135, go_sem, hx2]) rfl (raw_none rfl ?_)
  repeat (first | with_reducible exact unhide HB | with_reducible exact Below.refl _ _ | with_reducible refine bdrew ?_ | (with_reducible refine brow ?_ ?_; (focus (first | omega | (simp; done) | (simp; omega)))) | (with_reducible refine bset ?_ ?_; (focus (first | omega | (simp; done) | (simp; omega)))) | (with_reducible refine balloc ?_ ?_; (focus (first | omega | (simp; done) | (simp; omega)))) | (with_reducible refine bvia (unhide HB1) ?_ ?_; (focus (first | omega | (simp; done) | (simp; omega)))) | (with_reducible refine bvia (unhide HB2) ?_ ?_; (focus (first | omega | (simp; done) | (simp; omega)))) | (with_reducible refine bvia (unhide HB3) ?_ ?_; (focus (first | omega | (simp; done) | (simp; omega)))) | (with_reducible refine bvia (unhide HB4) ?_ ?_; (focus (first | omega | (simp; done) | (simp; omega)))) | (with_reducible refine bvia (unhide HB5) ?_ ?_; (focus (first | omega | (simp; done) | (simp; omega)))) | (with_reducible refine bvia (unhide HB6) ?_ ?_; (focus (first | omega | (simp; done) | (simp; omega)))))
set_option maxRecDepth 10000 in
set_option maxHeartbeats 1000000 in
theorem rawOffer_man (hd : DevAt w b t key F on wait next age) (hp : ph ≠ 2) (s : ByteArray) (hk : key.size ≤ 16) (hs : s.size ≤ maxLen) (h : M.isMan key s = false) :
    Calls Tryz.prog 135 #[.pointer (some ⟨b, 0, none⟩), recV pg num kp ph tr s0 v0 s1 v1 th, .string s] w fun e w' => OutRaw w on wait next age 13 ⟨#[]⟩ (-1) [] e w' := by
  have HD := hide hd
  have hlt := hd.lt
  have cK := hd.keyC
  have hne : ¬ b = w.heap.size := by omega
  have hne1 : ¬ b = w.heap.size + 1 := by omega
  have hp2 : ¬ (ph : Int) = 2 := by omega
  have HM := hide (fun W => manParse_no key s W hk hs h)
  clear hd h
  go_enter Tryz.func135, Tryz.ntmps135
  go_wp2_with fail
  refine (unhide HM _).mono ?_
  rintro e w1 ⟨rfl, hb1⟩
  obtain ⟨k1, k2, hs1, hb⟩ := blk2 hb1
  have HD1 := hide ((((unhide HD).alloc _).alloc _).kept hb1)
  have K2 := hide k2
  have HB1 := hide hb
  clear hb hb1 k1 k2
  go_wp2_with fail
  refine (devFault_any ((unhide HD1).alloc _) 13).mono ?_
  rintro e w2 ⟨rfl, hb2⟩
  obtain ⟨hx2, hf2⟩ := block_facts (kept_block hb2 (alloc_block (unhide K2) _))
  have HB2 := hide hb2
  have hs2 := hb2.size
  simp at hs2
  clear hb2
  have l2 : w.heap.size + 1 < w2.heap.size := (by omega); have n2 : ¬ w.heap.size + 1 = w2.heap.size := (by omega)
  go_wp2
  refine bodyPost_ret (v := outV (.slice none 0 0) on wait next age 13 ⟨#[]⟩ (-1)) (by simp [results, Tryz.results135, go_sem, hx2]) rfl (raw_none rfl ?_)
  repeat (first | with_reducible exact unhide HB | with_reducible exact Below.refl _ _ | with_reducible refine bdrew ?_ | (with_reducible refine brow ?_ ?_; (focus (first | omega | (simp; done) | (simp; omega)))) | (with_reducible refine bset ?_ ?_; (focus (first | omega | (simp; done) | (simp; omega)))) | (with_reducible refine balloc ?_ ?_; (focus (first | omega | (simp; done) | (simp; omega)))) | (with_reducible refine bvia (unhide HB1) ?_ ?_; (focus (first | omega | (simp; done) | (simp; omega)))) | (with_reducible refine bvia (unhide HB2) ?_ ?_; (focus (first | omega | (simp; done) | (simp; omega)))) | (with_reducible refine bvia (unhide HB3) ?_ ?_; (focus (first | omega | (simp; done) | (simp; omega)))) | (with_reducible refine bvia (unhide HB4) ?_ ?_; (focus (first | omega | (simp; done) | (simp; omega)))) | (with_reducible refine bvia (unhide HB5) ?_ ?_; (focus (first | omega | (simp; done) | (simp; omega)))) | (with_reducible refine bvia (unhide HB6) ?_ ?_; (focus (first | omega | (simp; done) | (simp; omega)))))
set_option maxRecDepth 10000 in
set_option maxHeartbeats 1000000 in
theorem rawOffer_ver (hd : DevAt w b t key F on wait next age) (hp : ph ≠ 2) (s : ByteArray) (hk : key.size ≤ 16) (hs : s.size ≤ maxLen) (h : M.isMan key s = true)
    (hv : M.numAt (M.bz s) 0 ≤ (if kp = 0 then v0 else v1) ∨ M.numAt (M.bz s) 2 ≠ (if kp = 0 then v0 else v1)) :
    Calls Tryz.prog 135 #[.pointer (some ⟨b, 0, none⟩), recV pg num kp ph tr s0 v0 s1 v1 th, .string s] w fun e w' => OutRaw w on wait next age 6 ⟨#[]⟩ (-1) [] e w' := by
  have HD := hide hd
  have hlt := hd.lt
  have cK := hd.keyC
  have hne : ¬ b = w.heap.size := by omega
  have hne1 : ¬ b = w.heap.size + 1 := by omega
  have hp2 : ¬ (ph : Int) = 2 := by omega
  have HM := hide (fun W => manParse_yes key s W hk hs h)
  have HS := hide (fun W => recSlot_any pg num kp ph tr s0 v0 s1 v1 th kp W)
  generalize (if kp = 0 then v0 else v1) = kv at *
  generalize (if kp = 0 then s0 else s1) = ks at *
  have HV := hide hv
  clear hd h hv
  go_enter Tryz.func135, Tryz.ntmps135
  go_wp2_with fail
  refine (unhide HM _).mono ?_
  rintro e w1 ⟨ao, n, cap, rfl, hb1⟩
  unfold manOf
  generalize M.numAt (M.bz s) 0 = a0 at *
  generalize M.numAt (M.bz s) 2 = a2 at *
  generalize M.numAt (M.bz s) 6 = a6 at *
  generalize M.bz s 4 = a4 at *
  generalize M.bz s 5 = a5 at *
  generalize M.exB (M.bz s) = x1 at *
  generalize M.exQ (M.bz s) = x2 at *
  generalize M.exA (M.bz s) = x3 at *
  obtain ⟨k1, k2, hs1, hb⟩ := blk2 hb1
  have HD1 := hide ((((unhide HD).alloc _).alloc _).kept hb1)
  obtain ⟨hx1, hf1⟩ := block_facts k1
  have K2 := hide k2
  have HB1 := hide hb
  clear hb hb1 k1 k2
  have l1 : w.heap.size < w1.heap.size := (by omega); have n1 : ¬ w.heap.size = w1.heap.size := (by omega)
  have l2 : w.heap.size + 1 < w1.heap.size := (by omega); have n2 : ¬ w.heap.size + 1 = w1.heap.size := (by omega)
  go_wp2_with fail
  refine (unhide HS _).mono ?_
  rintro e w2 ⟨rfl, hb2⟩
  clear hx1 hf1
  have HD2 := hide (((unhide HD1).alloc _).kept hb2)
  have k2 := kept_block hb2 (alloc_block (unhide K2) _)
  obtain ⟨k3, hs2, hb⟩ := blk1 hb2
  obtain ⟨hx3, hf3⟩ := block_facts k3
  have K2' := hide k2
  have HB2 := hide hb
  clear hb hb2 k2 k3 K2 HS
  have l3 : w1.heap.size < w2.heap.size := (by omega); have n3 : ¬ w1.heap.size = w2.heap.size := (by omega)
  rcases (by have := unhide HV; omega : a0 ≤ kv ∨ ¬ a0 ≤ kv ∧ a2 ≠ kv) with h1 | ⟨h1, h2⟩
  · have g1 : (a0 : Int) ≤ (kv : Int) := by omega
    go_wp2_with fail
    refine (devFault_any ((unhide HD2).alloc _) 6).mono ?_
    rintro e w3 ⟨rfl, hb3⟩
    obtain ⟨hx2, hf2⟩ := block_facts (kept_block hb3 (alloc_block (unhide K2') _))
    have HB3 := hide hb3
    have hs3 := hb3.size
    simp at hs3
    clear hb3
    have l4 : w.heap.size + 1 < w3.heap.size := (by omega); have n4 : ¬ w.heap.size + 1 = w3.heap.size := (by omega)
    go_wp2
    refine bodyPost_ret (v := outV (.slice none 0 0) on wait next age 6 ⟨#[]⟩ (-1)) (by simp [results, Tryz.results135, go_sem, hx2]) rfl (raw_none rfl ?_)
    repeat (first | with_reducible exact unhide HB | with_reducible exact Below.refl _ _ | with_reducible refine bdrew ?_ | (with_reducible refine brow ?_ ?_; (focus (first | omega | (simp; done) | (simp; omega)))) | (with_reducible refine bset ?_ ?_; (focus (first | omega | (simp; done) | (simp; omega)))) | (with_reducible refine balloc ?_ ?_; (focus (first | omega | (simp; done) | (simp; omega)))) | (with_reducible refine bvia (unhide HB1) ?_ ?_; (focus (first | omega | (simp; done) | (simp; omega)))) | (with_reducible refine bvia (unhide HB2) ?_ ?_; (focus (first | omega | (simp; done) | (simp; omega)))) | (with_reducible refine bvia (unhide HB3) ?_ ?_; (focus (first | omega | (simp; done) | (simp; omega)))) | (with_reducible refine bvia (unhide HB4) ?_ ?_; (focus (first | omega | (simp; done) | (simp; omega)))) | (with_reducible refine bvia (unhide HB5) ?_ ?_; (focus (first | omega | (simp; done) | (simp; omega)))) | (with_reducible refine bvia (unhide HB6) ?_ ?_; (focus (first | omega | (simp; done) | (simp; omega)))))
  · have g1 : ¬ (a0 : Int) ≤ (kv : Int) := by omega
    have g2 : ((a2 : Int) != (kv : Int)) = true := by simp; omega
    go_wp2_with fail
    refine (devFault_any ((unhide HD2).alloc _) 6).mono ?_
    rintro e w3 ⟨rfl, hb3⟩
    obtain ⟨hx2, hf2⟩ := block_facts (kept_block hb3 (alloc_block (unhide K2') _))
    have HB3 := hide hb3
    have hs3 := hb3.size
    simp at hs3
    clear hb3
    have l4 : w.heap.size + 1 < w3.heap.size := (by omega); have n4 : ¬ w.heap.size + 1 = w3.heap.size := (by omega)
    go_wp2
    refine bodyPost_ret (v := outV (.slice none 0 0) on wait next age 6 ⟨#[]⟩ (-1)) (by simp [results, Tryz.results135, go_sem, hx2]) rfl (raw_none rfl ?_)
    repeat (first | with_reducible exact unhide HB | with_reducible exact Below.refl _ _ | with_reducible refine bdrew ?_ | (with_reducible refine brow ?_ ?_; (focus (first | omega | (simp; done) | (simp; omega)))) | (with_reducible refine bset ?_ ?_; (focus (first | omega | (simp; done) | (simp; omega)))) | (with_reducible refine balloc ?_ ?_; (focus (first | omega | (simp; done) | (simp; omega)))) | (with_reducible refine bvia (unhide HB1) ?_ ?_; (focus (first | omega | (simp; done) | (simp; omega)))) | (with_reducible refine bvia (unhide HB2) ?_ ?_; (focus (first | omega | (simp; done) | (simp; omega)))) | (with_reducible refine bvia (unhide HB3) ?_ ?_; (focus (first | omega | (simp; done) | (simp; omega)))) | (with_reducible refine bvia (unhide HB4) ?_ ?_; (focus (first | omega | (simp; done) | (simp; omega)))) | (with_reducible refine bvia (unhide HB5) ?_ ?_; (focus (first | omega | (simp; done) | (simp; omega)))) | (with_reducible refine bvia (unhide HB6) ?_ ?_; (focus (first | omega | (simp; done) | (simp; omega)))))
end
end Go.Proofs.YtjfmiomopfjecabGreat

/- A manifest that is offered is taken. -/
namespace Go.Proofs.YtjfmiomopfjecabGreat
open Go.RowKit Go.Lib

theorem row_of {W : World} {base : Nat} {v : Value} {l : List GW} (h : W.ownsRow base 136 2 v l.length (gwCells l)) (hl : 0 < l.length) : ∃ g cap, v = .slice (some ⟨g, 0, none⟩) l.length cap ∧ base ≤ g ∧ ∀ j u, (gwCells l)[j]? = some u → W.cell? ⟨g, j, none⟩ = some u := by
  obtain ⟨ao, cap, rfl, -, -, hc⟩ := (holdsRow_own h).shape
  obtain ⟨g, rfl, -, hcells⟩ := hc hl
  exact ⟨g, cap, rfl, (h.lt g rfl).1, hcells⟩
section
variable {pg num kp ph tr s0 v0 s1 v1 th : Nat} {w : World} {b : Nat} {t : TypeId} {key : ByteArray} {F : Nat → Nat} {on : Bool} {wait next age : Nat}
set_option maxRecDepth 10000 in
set_option maxHeartbeats 2000000 in
theorem rawOffer_yes (hd : DevAt w b t key F on wait next age) (hr : RecOk pg num kp ph tr s0 v0 s1 v1 th) (hp : ph ≠ 2) (hp1 : ph ≠ 1) (s : ByteArray) (hk : key.size ≤ 16) (hs : s.size ≤ maxLen) (h : M.isMan key s = true)
    (hv0 : (if kp = 0 then v0 else v1) < M.numAt (M.bz s) 0) (hv2 : M.numAt (M.bz s) 2 = (if kp = 0 then v0 else v1)) :
    Calls Tryz.prog 135 #[.pointer (some ⟨b, 0, none⟩), recV pg num kp ph tr s0 v0 s1 v1 th, .string s] w fun e w' => OutRaw w on 0 1 age 0 ⟨#[]⟩ (-1) (spreadG 2 3 s ++ [(1 - pg, recP ((num + 1) % 256) kp 1 0 s0 v0 s1 v1 0)]) e w' := by
  have HD := hide hd
  have hlt := hd.lt
  have cK := hd.keyC
  have hne : ¬ b = w.heap.size := by omega
  have hne1 : ¬ b = w.heap.size + 1 := by omega
  have hp2 : ¬ (ph : Int) = 2 := by omega
  have hp3 : ¬ (ph : Int) = 1 := by omega
  have HM := hide (fun W => manParse_yes key s W hk hs h)
  have HS := hide (fun W => recSlot_any pg num kp ph tr s0 v0 s1 v1 th kp W)
  have HFT := hide (fun W => recFetching_any pg num kp ph tr s0 v0 s1 v1 th W hr.1 hr.2.1)
  have HW := hide (fun W => written_ok (next_ok (p := 1) (q := 0) (k := kp) (t := 0) hr (by omega) (by omega) hr.2.2.1 (by omega)) W)
  have HSP := hide (fun W => spread_any 2 3 s W hs (by omega) (by omega))
  generalize (if kp = 0 then v0 else v1) = kv at *
  generalize (if kp = 0 then s0 else s1) = ks at *
  have HV2 := hide hv2
  clear hd h hv2 hr
  go_enter Tryz.func135, Tryz.ntmps135
  go_wp2_with fail
  refine (unhide HM _).mono ?_
  rintro e w1 ⟨ao, n, cap, rfl, hb1⟩
  unfold manOf
  generalize M.numAt (M.bz s) 0 = a0 at *
  generalize M.numAt (M.bz s) 2 = a2 at *
  generalize M.numAt (M.bz s) 6 = a6 at *
  generalize M.bz s 4 = a4 at *
  generalize M.bz s 5 = a5 at *
  generalize M.exB (M.bz s) = x1 at *
  generalize M.exQ (M.bz s) = x2 at *
  generalize M.exA (M.bz s) = x3 at *
  obtain ⟨k1, k2, hs1, hb⟩ := blk2 hb1
  have HD1 := hide ((((unhide HD).alloc _).alloc _).kept hb1)
  obtain ⟨hx1, hf1⟩ := block_facts k1
  have K1 := hide k1
  have K2 := hide k2
  have HB1 := hide hb
  clear hb hb1 k1 k2
  have l1 : w.heap.size < w1.heap.size := (by omega); have n1 : ¬ w.heap.size = w1.heap.size := (by omega)
  have l2 : w.heap.size + 1 < w1.heap.size := (by omega); have n2 : ¬ w.heap.size + 1 = w1.heap.size := (by omega)
  go_wp2_with fail
  refine (unhide HS _).mono ?_
  rintro e w2 ⟨rfl, hb2⟩
  clear hx1 hf1
  have HD2 := hide (((unhide HD1).alloc _).kept hb2)
  have k1 := kept_block hb2 (alloc_block (unhide K1) _)
  have k2 := kept_block hb2 (alloc_block (unhide K2) _)
  obtain ⟨k3, hs2, hb⟩ := blk1 hb2
  obtain ⟨hx1, hf1⟩ := block_facts k1
  obtain ⟨hx3, hf3⟩ := block_facts k3
  have K1' := hide k1
  have K2' := hide k2
  have HB2 := hide hb
  clear hb hb2 k1 k2 k3 K1 K2 HS HD1
  have l3 : w1.heap.size < w2.heap.size := (by omega); have n3 : ¬ w1.heap.size = w2.heap.size := (by omega)
  have l4 : w.heap.size < w2.heap.size := (by omega); have n4 : ¬ w.heap.size = w2.heap.size := (by omega)
  have g1 : ¬ (a0 : Int) ≤ (kv : Int) := by omega
  have g2 : ((a2 : Int) != (kv : Int)) = false := by have := HV2.out; simp; omega
  go_wp2_with fail
  refine (unhide HSP _).mono ?_
  rintro e w3 ⟨v, rfl, hown, hb3⟩
  have HD3 := hide (((unhide HD2).alloc _).kept hb3)
  have k1 := kept_block hb3 (alloc_block (unhide K1') _)
  have k2 := kept_block hb3 (alloc_block (unhide K2') _)
  obtain ⟨g, c3, rfl, hg3, hcells⟩ := row_of (l := spreadG 2 3 s) hown (by rw [spreadG_length]; omega)
  have HC3 := hide hcells
  have HB3 := hide hb3
  have hs3 := hb3.size
  simp at hs3 hg3
  clear hx1 hf1 hx3 hf3 hcells hb3 hown
  have K1 := hide k1
  have K2 := hide k2
  clear k1 k2 K1' K2' HD2
  have HL3 := hide (spreadG_length 2 3 s)
  go_wp2_with (at_builtin; (refine append_writes _ rfl (.tmp 57) (.tmp 59) rfl w3.heap.size (.slice none 0 0) [] (spreadG 2 3 s) g c3 rfl rfl (World.ownsRow_nil _ _ _ _) (unhide HC3) (by rw [HL3.out]; show 0 + 3 ≤ _; omega) (Nat.le_refl _) ?_); intro v4 w4 hown4 hbel4 hsz4; obtain ⟨ao4, cap4, hv4, -⟩ := (holdsRow_own hown4).shape; subst hv4; have hB4 := hbel4 _ (Below.refl _ _); obtain ⟨hx1, hf1⟩ := block_facts (kept_block hB4 (unhide K1)))
  clear hx1 hf1
  refine (unhide HFT _).mono ?_
  rintro e w5 ⟨rfl, hb5⟩
  have K2' := hide (kept_block hb5 (kept_block hB4 (unhide K2)))
  have HD5 := hide (((unhide HD3).kept hB4).kept hb5)
  have HO5 : Hid (w5.ownsRow w3.heap.size 136 2 (.slice ao4 (spreadG 2 3 s).length cap4) (spreadG 2 3 s).length (gwCells (spreadG 2 3 s))) := ownsRow_below hown4 hb5
  have hs5 := hb5.size
  have HB5 : Hid (Below w.heap.size w w5) := by
    refine bvia hb5 (by omega) ?_
    refine hB4.mono (by omega) |> fun h => Below.trans ?_ h
    repeat (first | with_reducible exact unhide HB | with_reducible exact Below.refl _ _ | with_reducible refine bdrew ?_ | (with_reducible refine brow ?_ ?_; (focus (first | omega | (simp; done) | (simp; omega)))) | (with_reducible refine bset ?_ ?_; (focus (first | omega | (simp; done) | (simp; omega)))) | (with_reducible refine balloc ?_ ?_; (focus (first | omega | (simp; done) | (simp; omega)))) | (with_reducible refine bvia (unhide HB1) ?_ ?_; (focus (first | omega | (simp; done) | (simp; omega)))) | (with_reducible refine bvia (unhide HB2) ?_ ?_; (focus (first | omega | (simp; done) | (simp; omega)))) | (with_reducible refine bvia (unhide HB3) ?_ ?_; (focus (first | omega | (simp; done) | (simp; omega)))) | (with_reducible refine bvia (unhide HB4) ?_ ?_; (focus (first | omega | (simp; done) | (simp; omega)))) | (with_reducible refine bvia (unhide HB5) ?_ ?_; (focus (first | omega | (simp; done) | (simp; omega)))) | (with_reducible refine bvia (unhide HB6) ?_ ?_; (focus (first | omega | (simp; done) | (simp; omega)))))
  clear hb5 hown4 hbel4 hB4 K1 K2 HD3 HB1 HB2 HB3 HC3
  generalize hN : (num + 1) % 256 = N at *; generalize hP : 1 - pg = P at *; have HN := hide hN; have HP := hide hP; clear hN hP
  go_wp2_with fail
  refine (unhide HW _).mono ?_
  rintro e w6 ⟨rfl, hb6⟩
  have K2 := hide (kept_block hb6 (unhide K2'))
  have HD6 := hide ((unhide HD5).kept hb6)
  have HO6 := hide (ownsRow_below (unhide HO5) hb6)
  have hs6 := hb6.size
  have HB6 : Hid (Below w.heap.size w w6) := bvia hb6 (by omega) (unhide HB5)
  clear hb6 HB5 HO5 HD5 K2'
  generalize hT : recP N kp 1 0 s0 v0 s1 v1 0 = T at *
  have HT := hide hT
  clear hT
  go_wp2_with (at_builtin; (refine append_write _ rfl (.tmp 61) (.tmp 65) rfl w3.heap.size (.slice ao4 (spreadG 2 3 s).length cap4) (spreadG 2 3 s) _ (P, T) rfl rfl rfl (unhide HO6) (by rw [HL3.out]; omega) (by omega) ?_); intro v7 w7 hown7 hbel7 hsz7; obtain ⟨ao7, cap7, hv7, -⟩ := (holdsRow_own hown7).shape; subst hv7)
  have hB7 := hbel7 w6 (Below.refl _ _)
  have e7 : w7.heap[w.heap.size + 1]? = some (.cells (outC (.slice none 0 0) false 0 0 0 0 ⟨#[]⟩ 0) 163 (0, 0)) := (hB7.block _ (by omega)).trans (unhide K2)
  have HD7 : Hid (DevAt w7 b t key F on wait next age) := (hB7.block b (by omega)).trans (unhide HD6)
  have HO7 := hide hown7
  have HB7 : Hid (Below w.heap.size w w7) := (unhide HB6).trans (hB7.mono (by omega))
  have K7 := hide e7
  clear hown7 hbel7 hB7 e7 HD6 HB6 HO6 K2
  refine (devEager_any (unhide HD7) ao7 _ cap7).mono ?_
  rintro e w8 ⟨rfl, hb8⟩
  obtain ⟨hx2, hf2⟩ := block_facts (kept_block hb8 (unhide K7))
  have HO8 := hide (ownsRow_below (unhide HO7) hb8)
  have hs8 := hb8.size
  have HB : Hid (Below w.heap.size w w8) := bvia hb8 (by omega) (unhide HB7)
  clear hb8 HB7 HO7
  have l8 : w.heap.size + 1 < w8.heap.size := (by omega); have n8 : ¬ w.heap.size + 1 = w8.heap.size := (by omega)
  have HN8 : Hid ((spreadG 2 3 s ++ [(P, T)]).length = (spreadG 2 3 s).length + 1) := by show _ = _; rw [List.length_append]; rfl
  go_wp2
  refine bodyPost_ret (v := outV (.slice ao7 ((spreadG 2 3 s).length + 1) cap7) on 0 1 age 0 ⟨#[]⟩ (-1)) (by simp [results, Tryz.results135, go_sem, hx2]) rfl ?_
  rw [HN.out, HP.out, HT.out]
  refine ⟨ao7, cap7, by rw [HN8.out]; rfl, ?_, ?_⟩
  · refine ownsRow_base (base' := w3.heap.size) ?_ (by omega)
    iterate 8 refine ownsRow_setCell_below ?_ (by show w.heap.size + 1 < w3.heap.size; omega) _
    exact unhide HO8
  · repeat (first | with_reducible exact unhide HB | with_reducible exact Below.refl _ _ | with_reducible refine bdrew ?_ | (with_reducible refine brow ?_ ?_; (focus (first | omega | (simp; done) | (simp; omega)))) | (with_reducible refine bset ?_ ?_; (focus (first | omega | (simp; done) | (simp; omega)))) | (with_reducible refine balloc ?_ ?_; (focus (first | omega | (simp; done) | (simp; omega)))) | (with_reducible refine bvia (unhide HB1) ?_ ?_; (focus (first | omega | (simp; done) | (simp; omega)))) | (with_reducible refine bvia (unhide HB2) ?_ ?_; (focus (first | omega | (simp; done) | (simp; omega)))) | (with_reducible refine bvia (unhide HB3) ?_ ?_; (focus (first | omega | (simp; done) | (simp; omega)))) | (with_reducible refine bvia (unhide HB4) ?_ ?_; (focus (first | omega | (simp; done) | (simp; omega)))) | (with_reducible refine bvia (unhide HB5) ?_ ?_; (focus (first | omega | (simp; done) | (simp; omega)))) | (with_reducible refine bvia (unhide HB6) ?_ ?_; (focus (first | omega | (simp; done) | (simp; omega)))))
set_option maxRecDepth 10000 in
set_option maxHeartbeats 2000000 in
theorem rawOffer_more (hd : DevAt w b t key F on wait next age) (hr : RecOk pg num kp 1 tr s0 v0 s1 v1 th) (s : ByteArray) (hk : key.size ≤ 16) (hs : s.size ≤ maxLen) (h : M.isMan key s = true)
    (hv0 : (if kp = 0 then v0 else v1) < M.numAt (M.bz s) 0) (hv2 : M.numAt (M.bz s) 2 = (if kp = 0 then v0 else v1)) :
    Calls Tryz.prog 135 #[.pointer (some ⟨b, 0, none⟩), recV pg num kp 1 tr s0 v0 s1 v1 th, .string s] w fun e w' => OutRaw w on 0 1 age 0 ⟨#[]⟩ (-1) ([(1 - pg, recP ((num + 1) % 256) kp 0 0 s0 v0 s1 v1 0)] ++ spreadG 2 3 s ++ [(1 - (1 - pg), recP (((num + 1) % 256 + 1) % 256) kp 1 0 s0 v0 s1 v1 0)]) e w' := by
  have HD := hide hd
  have hlt := hd.lt
  have cK := hd.keyC
  have hne : ¬ b = w.heap.size := by omega
  have hne1 : ¬ b = w.heap.size + 1 := by omega
  have HM := hide (fun W => manParse_yes key s W hk hs h)
  have HS := hide (fun W => recSlot_any pg num kp 1 tr s0 v0 s1 v1 th kp W)
  have hok := next_ok (p := 0) (q := 0) (k := kp) (t := 0) hr (by omega) (by omega) hr.2.2.1 (by omega)
  have HST := hide (fun W => opaq (recSteady_any pg num kp 1 tr s0 v0 s1 v1 th W hr.1 hr.2.1))
  have HW0 := hide (fun W => written_ok hok W)
  have HFT := hide (fun W => recFetching_any (1 - pg) ((num + 1) % 256) kp 0 0 s0 v0 s1 v1 0 W hok.1 hok.2.1)
  have HW := hide (fun W => written_ok (next_ok (p := 1) (q := 0) (k := kp) (t := 0) hok (by omega) (by omega) hr.2.2.1 (by omega)) W)
  clear hok
  have HSP := hide (fun W => spread_any 2 3 s W hs (by omega) (by omega))
  generalize (if kp = 0 then v0 else v1) = kv at *
  generalize (if kp = 0 then s0 else s1) = ks at *
  have HV2 := hide hv2
  clear hd h hv2 hr
  go_enter Tryz.func135, Tryz.ntmps135
  go_wp2_with fail
  refine (unhide HM _).mono ?_
  rintro e w1 ⟨ao, n, cap, rfl, hb1⟩
  unfold manOf
  generalize M.numAt (M.bz s) 0 = a0 at *
  generalize M.numAt (M.bz s) 2 = a2 at *
  generalize M.numAt (M.bz s) 6 = a6 at *
  generalize M.bz s 4 = a4 at *
  generalize M.bz s 5 = a5 at *
  generalize M.exB (M.bz s) = x1 at *
  generalize M.exQ (M.bz s) = x2 at *
  generalize M.exA (M.bz s) = x3 at *
  obtain ⟨k1, k2, hs1, hb⟩ := blk2 hb1
  have HD1 := hide ((((unhide HD).alloc _).alloc _).kept hb1)
  obtain ⟨hx1, hf1⟩ := block_facts k1
  have K1 := hide k1
  have K2 := hide k2
  have HB1 := hide hb
  clear hb hb1 k1 k2
  have l1 : w.heap.size < w1.heap.size := (by omega); have n1 : ¬ w.heap.size = w1.heap.size := (by omega)
  have l2 : w.heap.size + 1 < w1.heap.size := (by omega); have n2 : ¬ w.heap.size + 1 = w1.heap.size := (by omega)
  go_wp2_with fail
  refine (unhide HS _).mono ?_
  rintro e w2 ⟨rfl, hb2⟩
  clear hx1 hf1
  have HD2 := hide (((unhide HD1).alloc _).kept hb2)
  have k1 := kept_block hb2 (alloc_block (unhide K1) _)
  have k2 := kept_block hb2 (alloc_block (unhide K2) _)
  obtain ⟨k3, hs2, hb⟩ := blk1 hb2
  obtain ⟨hx1, hf1⟩ := block_facts k1
  obtain ⟨hx3, hf3⟩ := block_facts k3
  have K1' := hide k1
  have K2' := hide k2
  have HB2 := hide hb
  clear hb hb2 k1 k2 k3 K1 K2 HS HD1
  have l3 : w1.heap.size < w2.heap.size := (by omega); have n3 : ¬ w1.heap.size = w2.heap.size := (by omega)
  have l4 : w.heap.size < w2.heap.size := (by omega); have n4 : ¬ w.heap.size = w2.heap.size := (by omega)
  have g1 : ¬ (a0 : Int) ≤ (kv : Int) := by omega
  have g2 : ((a2 : Int) != (kv : Int)) = false := by have := HV2.out; simp; omega
  go_wp2_with fail
  refine (unhide HST _).mono ?_
  rintro e wa ⟨C, rfl, HC, hba⟩
  have HDa := hide (((unhide HD2).alloc _).kept hba)
  have ka1 := kept_block hba (alloc_block (unhide K1') _)
  have ka2 := kept_block hba (alloc_block (unhide K2') _)
  have HBa := hide hba
  have hsa := hba.size
  simp at hsa
  clear hx1 hf1 hx3 hf3 hba
  obtain ⟨hx1, hf1⟩ := block_facts ka1
  have Ka1 := hide ka1
  have Ka2 := hide ka2
  clear ka1 ka2 K1' K2' HD2 HST
  generalize hN : (num + 1) % 256 = N at *; generalize hP : 1 - pg = P at *; have HN := hide hN; have HP := hide hP; clear hN hP
  have HDa' : Hid (wa.heap[b]? = some (.cells (devCells key F on wait next age) t (0, 0))) := unhide HDa
  have hC10 : C.size = 10 := by rw [HC.out]; rfl
  have hCn : ¬ C = #[] := fun e => by rw [e] at hC10; exact absurd hC10 (by decide)
  have hst := store_row (c := C) (unhide Ka1) (ty := 133) (by rw [rec_info, hC10]) (by rw [hC10]; rfl) (by rw [HC.out]; simp [Value.oneCell'])
  have HR1 := hide (row_in (C := C) (unhide Ka1))
  have hxr : ∀ o, (wa.setRow w.heap.size C).cell? ⟨w.heap.size, o, none⟩ = (#[.int .i64 P, .int .i64 N, .int .i64 kp, .int .i64 0, .int .i64 0, .int .i64 s0, .int .i64 v0, .int .i64 s1, .int .i64 v1, .int .i64 0] : Array Value)[o]? := fun o => by rw [(block_facts (unhide HR1)).1 o, HC.out]
  clear hx1 hf1
  go_wp2_with fail
  refine (unhide HW0 _).mono ?_
  rintro e wb ⟨rfl, hbb⟩
  have kb1 := kept_block hbb (unhide HR1)
  have kb2 : wb.heap[w.heap.size + 1]? = some (.cells (outC (.slice none 0 0) false 0 0 0 0 ⟨#[]⟩ 0) 163 (0, 0)) := kept_block hbb (row_else (by omega) (unhide Ka2))
  have kbd : wb.heap[b]? = some (.cells (devCells key F on wait next age) t (0, 0)) := kept_block hbb (row_else (by omega) (unhide HDa'))
  have HB3 := HBa
  have hsb := hbb.size
  rw [row_size] at hsb
  have HB0 : Hid (Below w.heap.size w wb) := by
    show Below _ _ _
    refine bvia hbb (by rw [row_size]; omega) ?_
    repeat (first | with_reducible exact unhide HB | with_reducible exact Below.refl _ _ | with_reducible refine bdrew ?_ | (with_reducible refine brow ?_ ?_; (focus (first | omega | (simp; done) | (simp; omega)))) | (with_reducible refine bset ?_ ?_; (focus (first | omega | (simp; done) | (simp; omega)))) | (with_reducible refine balloc ?_ ?_; (focus (first | omega | (simp; done) | (simp; omega)))) | (with_reducible refine bvia (unhide HB1) ?_ ?_; (focus (first | omega | (simp; done) | (simp; omega)))) | (with_reducible refine bvia (unhide HB2) ?_ ?_; (focus (first | omega | (simp; done) | (simp; omega)))) | (with_reducible refine bvia (unhide HB3) ?_ ?_; (focus (first | omega | (simp; done) | (simp; omega)))) | (with_reducible refine bvia (unhide HB4) ?_ ?_; (focus (first | omega | (simp; done) | (simp; omega)))) | (with_reducible refine bvia (unhide HB5) ?_ ?_; (focus (first | omega | (simp; done) | (simp; omega)))) | (with_reducible refine bvia (unhide HB6) ?_ ?_; (focus (first | omega | (simp; done) | (simp; omega)))))
  clear hbb HB1 HB2 HB3 HBa HDa HDa' Ka1 Ka2 HW0
  have KB1 := hide kb1
  have KB2 := hide kb2
  have KBD := hide kbd
  clear kb1 kb2 kbd
  generalize hT0 : recP N kp 0 0 s0 v0 s1 v1 0 = T0 at *
  have HT0 := hide hT0
  clear hT0
  go_wp2_with (at_builtin; (refine append_write _ rfl (.tmp 52) (.tmp 55) rfl wb.heap.size (.slice none 0 0) [] _ (P, T0) rfl rfl rfl (World.ownsRow_nil _ _ _ _) (by show 0 + 1 ≤ _; omega) (Nat.le_refl _) ?_); intro vc wc hownc hbelc hszc; obtain ⟨aoc, capc, hvc, -⟩ := (holdsRow_own hownc).shape; subst hvc; have hBc := hbelc _ (Below.refl _ _))
  have KC1 := hide ((hBc.block w.heap.size (by omega)).trans (unhide KB1))
  have KC2 := hide ((hBc.block (w.heap.size + 1) (by omega)).trans (unhide KB2))
  have KCD := hide ((hBc.block b (by omega)).trans (unhide KBD))
  have HOc : Hid (wc.ownsRow wb.heap.size 136 2 (.slice aoc 1 capc) [(P, T0)].length (gwCells [(P, T0)])) := hownc
  have HBc : Hid (Below w.heap.size w wc) := (unhide HB0).trans (hBc.mono (by omega))
  clear hownc hbelc hBc KB1 KB2 KBD HB0 hxr
  refine (unhide HSP _).mono ?_
  rintro e w3 ⟨v, rfl, hown, hb3⟩
  have k1 := kept_block hb3 (unhide KC1)
  have k2 := kept_block hb3 (unhide KC2)
  have kd := kept_block hb3 (unhide KCD)
  obtain ⟨g, c3, rfl, hg3, hcells⟩ := row_of (l := spreadG 2 3 s) hown (by rw [spreadG_length]; omega)
  have HC3 := hide hcells
  have HO3 := hide (ownsRow_below (unhide HOc) hb3)
  have hs3 := hb3.size
  have HB3 : Hid (Below w.heap.size w w3) := bvia hb3 (by omega) (unhide HBc)
  clear hcells hb3 hown KC1 KC2 KCD HOc HBc
  have K1 := hide k1
  have K2 := hide k2
  have KD := hide kd
  clear k1 k2 kd
  have HL3 := hide (spreadG_length 2 3 s)
  go_wp2_with (at_builtin; (refine append_writes _ rfl (.tmp 57) (.tmp 59) rfl wb.heap.size (.slice aoc 1 capc) [(P, T0)] (spreadG 2 3 s) g c3 rfl rfl (unhide HO3) (unhide HC3) (by rw [HL3.out]; show 1 + 3 ≤ _; omega) (by omega) ?_); intro v4 w4 hown4 hbel4 hsz4; obtain ⟨ao4, cap4, hv4, -⟩ := (holdsRow_own hown4).shape; subst hv4; have hB4 := hbel4 _ (Below.refl _ _); have hx1 : ∀ o, w4.cell? ⟨w.heap.size, o, none⟩ = (#[.int .i64 P, .int .i64 N, .int .i64 kp, .int .i64 0, .int .i64 0, .int .i64 s0, .int .i64 v0, .int .i64 s1, .int .i64 v1, .int .i64 0] : Array Value)[o]? := (fun o => by rw [(block_facts ((hB4.block w.heap.size (by omega)).trans (unhide K1))).1 o, HC.out]))
  clear hx1
  refine (unhide HFT _).mono ?_
  rintro e w5 ⟨rfl, hb5⟩
  have K2' := hide (kept_block hb5 ((hB4.block _ (by omega)).trans (unhide K2)))
  have KD5 := hide (kept_block hb5 ((hB4.block b (by omega)).trans (unhide KD)))
  have HO5 := hide (ownsRow_below hown4 hb5)
  have hs5 := hb5.size
  have HB5 : Hid (Below w.heap.size w w5) := bvia hb5 (by omega) ((unhide HB3).trans (hB4.mono (by omega)))
  clear hb5 hown4 hbel4 hB4 K1 K2 KD HB3 HC3 HO3
  generalize hN2 : (N + 1) % 256 = N2 at *
  generalize hP2 : 1 - P = P2 at *
  have HN2 := hide hN2
  have HP2 := hide hP2
  clear hN2 hP2
  go_wp2_with fail
  refine (unhide HW _).mono ?_
  rintro e w6 ⟨rfl, hb6⟩
  have K2 := hide (kept_block hb6 (unhide K2'))
  have KD6 := hide (kept_block hb6 (unhide KD5))
  have HO6 := hide (ownsRow_below (unhide HO5) hb6)
  have hs6 := hb6.size
  have HB6 : Hid (Below w.heap.size w w6) := bvia hb6 (by omega) (unhide HB5)
  clear hb6 HB5 HO5 KD5 K2'
  generalize hT : recP N2 kp 1 0 s0 v0 s1 v1 0 = T at *
  have HT := hide hT
  clear hT
  go_wp2_with (at_builtin; (refine append_write _ rfl (.tmp 61) (.tmp 65) rfl wb.heap.size (.slice ao4 ((spreadG 2 3 s).length + 1) cap4) ([(P, T0)] ++ spreadG 2 3 s) _ (P2, T) rfl rfl rfl (unhide HO6) (by show (spreadG 2 3 s).length + 1 + 1 ≤ _; rw [HL3.out]; omega) (by omega) ?_); intro v7 w7 hown7 hbel7 hsz7; obtain ⟨ao7, cap7, hv7, -⟩ := (holdsRow_own hown7).shape; subst hv7)
  have hB7 := hbel7 w6 (Below.refl _ _)
  have e7 := (hB7.block _ (by omega)).trans (unhide K2)
  have HD7 : Hid (DevAt w7 b t key F on wait next age) := (hB7.block b (by omega)).trans (unhide KD6)
  have HO7 := hide hown7
  have HB7 : Hid (Below w.heap.size w w7) := (unhide HB6).trans (hB7.mono (by omega))
  have K7 := hide e7
  clear hown7 hbel7 hB7 e7 KD6 HB6 HO6 K2
  refine (devEager_any (unhide HD7) ao7 _ cap7).mono ?_
  rintro e w8 ⟨rfl, hb8⟩
  obtain ⟨hx2, hf2⟩ := block_facts (kept_block hb8 (unhide K7))
  have HO8 := hide (ownsRow_below (unhide HO7) hb8)
  have hs8 := hb8.size
  have HB : Hid (Below w.heap.size w w8) := bvia hb8 (by omega) (unhide HB7)
  clear hb8 HB7 HO7
  have l8 : w.heap.size + 1 < w8.heap.size := (by omega); have n8 : ¬ w.heap.size + 1 = w8.heap.size := (by omega)
  go_wp2
  refine bodyPost_ret (v := outV (.slice ao7 ((spreadG 2 3 s).length + 1 + 1) cap7) on 0 1 age 0 ⟨#[]⟩ (-1)) (by simp [results, Tryz.results135, go_sem, hx2]) rfl ?_
  rw [HN.out, HP.out, HN2.out, HP2.out, HT.out, HT0.out]
  refine ⟨ao7, cap7, by rw [List.length_cons, List.length_append]; rfl, ?_, ?_⟩
  · refine ownsRow_base (base' := wb.heap.size) ?_ (by omega)
    iterate 8 refine ownsRow_setCell_below ?_ (by show w.heap.size + 1 < wb.heap.size; omega) _
    exact unhide HO8
  · repeat (first | with_reducible exact unhide HB | with_reducible exact Below.refl _ _ | with_reducible refine bdrew ?_ | (with_reducible refine brow ?_ ?_; (focus (first | omega | (simp; done) | (simp; omega)))) | (with_reducible refine bset ?_ ?_; (focus (first | omega | (simp; done) | (simp; omega)))) | (with_reducible refine balloc ?_ ?_; (focus (first | omega | (simp; done) | (simp; omega)))) | (with_reducible refine bvia (unhide HB1) ?_ ?_; (focus (first | omega | (simp; done) | (simp; omega)))) | (with_reducible refine bvia (unhide HB2) ?_ ?_; (focus (first | omega | (simp; done) | (simp; omega)))) | (with_reducible refine bvia (unhide HB3) ?_ ?_; (focus (first | omega | (simp; done) | (simp; omega)))) | (with_reducible refine bvia (unhide HB4) ?_ ?_; (focus (first | omega | (simp; done) | (simp; omega)))) | (with_reducible refine bvia (unhide HB5) ?_ ?_; (focus (first | omega | (simp; done) | (simp; omega)))) | (with_reducible refine bvia (unhide HB6) ?_ ?_; (focus (first | omega | (simp; done) | (simp; omega)))))
end
end Go.Proofs.YtjfmiomopfjecabGreat

/- The new image is installed, or given up. -/
namespace Go.Proofs.YtjfmiomopfjecabGreat
open Go.RowKit Go.Lib
attribute [local go_sem ↓] Go.wp_at_zero Go.wp_at_succ

/-- what holds behind a piece of code, said once -/
theorem cut_code {c : Code} {a : Act} {W : World} {Q : Exit → Act → World → Prop} (Φ : Act → World → Prop) (h1 : c.wp Tryz.prog (fun e a w => e = .normal ∧ Φ a w) a W) (h2 : ∀ a w, Φ a w → Q .normal a w) : c.wp Tryz.prog Q a W :=
  Code.wp_mono (fun _ a w ⟨he, h⟩ => he ▸ h2 a w h) h1
theorem oset {W : World} {base g o : Nat} {u : Value} {e : TypeId} {size : Nat} {v : Value} {n : Nat} {xs : List Value} (hg : g < base) (h : W.ownsRow base e size v n xs) : (W.setCell ⟨g, o, none⟩ u).ownsRow base e size v n xs := ownsRow_setCell_below h (a := ⟨g, o, none⟩) hg u
/-- one page more, as a step of a region that draws its order -/
theorem step_write {ops : Array Oper} {o : Oper} {a : Act} {K : Act → World → Prop} {Q : Exit → Act → World → Prop} {E : Prop} {W : World} (hgd : o.guard = none) (s x : Operand)
    (ho : o.op = .call { callee := .builtin .append, args := #[s, x], argTypes := #[127, 127] })
    (base : Nat) (v : Value) (l : List GW) (y : GW) (g : Nat) (hs : a.eval s = v) (hx : a.eval x = .slice (some ⟨g, 0, none⟩) 1 1) (hc : W.cell? ⟨g, 0, none⟩ = some (.int .i64 (y.1 : Int))) (hc1 : W.cell? ⟨g, 1, none⟩ = some (.string y.2))
    (hown : W.ownsRow base 136 2 v l.length (gwCells l)) (hn : l.length + 1 ≤ 1000000) (hbase : base ≤ W.heap.size)
    (h : ∀ v' w', w'.ownsRow base 136 2 v' (l ++ [y]).length (gwCells (l ++ [y])) → (∀ w0, Below base w0 W → Below base w0 w') → W.heap.size ≤ w'.heap.size → K (a.put o.dst v') w') :
    if Region.wanted o (yielded ops a.tmps) = true then Oper.wp Tryz.prog o a W K Q else E := by
  have hw : Region.wanted o (yielded ops a.tmps) = true := by simp [Region.wanted, hgd]
  rw [if_pos hw]
  obtain ⟨i0, hi, hz0, hz1, hz2⟩ := info_parts infoW
  refine wp_append_own _ s x 127 ho base 136 i0 _ 2 24 Tryz.underlying127 hi hz0 hz1 hz2 rfl (by decide) v l.length (gwCells l) hs hown ⟨g, 0, none⟩ 1 1 [.int .i64 (y.1 : Int), .string y.2] hx rfl ?_ ?_ (by unfold maxLen; omega) (by omega) hbase ?_
  · intro j u hj
    match j, hj with
    | 0, hj => simp at hj; subst hj; rw [add_at]; exact hc
    | 1, hj => simp at hj; subst hj; rw [add_at]; exact hc1
  · intro u hu
    simp only [List.mem_cons, List.not_mem_nil, or_false] at hu
    rcases hu with rfl | rfl <;> rfl
  · intro v' w' hown' hgrow _
    refine h v' w' ?_ (fun w0 hb0 => ?_) hgrow.size
    · rw [List.length_append, gwCells_snoc]
      exact hown'
    · exact hb0.grown hgrow hbase (fun k hk => (hown.lt k hk).1)
section
variable {pg num kp ph tr s0 v0 s1 v1 th : Nat} {w : World} {b : Nat} {t : TypeId} {key : ByteArray} {F : Nat → Nat} {on : Bool} {wait next age : Nat}
set_option maxRecDepth 10000 in
set_option maxHeartbeats 1000000 in
theorem rawInstall_no (hd : DevAt w b t key F on wait next age) (hr : RecOk pg num kp ph tr s0 v0 s1 v1 th) (m : Array Value) (hm : ∃ a0 a2 a4 a5 a6 : Int, ∃ ao n cap x1 x2 x3, m = manC a0 a2 a4 a5 a6 (.slice ao n cap) x1 x2 x3) (en : Int) (he : en ≠ 0)
    (hbt : ∀ (W : World) (_ : DevAt W b t key F on wait next age), Calls Tryz.prog 195 #[.pointer (some ⟨b, 0, none⟩), recV pg num kp ph tr s0 v0 s1 v1 th, .agg m] W fun e w' => e = .returned (.tuple #[.string ⟨#[]⟩, .int .i64 en]) ∧ Below W.heap.size W w') :
    Calls Tryz.prog 185 #[.pointer (some ⟨b, 0, none⟩), recV pg num kp ph tr s0 v0 s1 v1 th, .agg m] w fun e w' => OutRaw w on wait next age en ⟨#[]⟩ (-1) [(1 - pg, recP ((num + 1) % 256) kp 0 0 s0 v0 s1 v1 0)] e w' := by
  obtain ⟨a0, a2, a4, a5, a6, ao, n, cap, x1, x2, x3, rfl⟩ := hm
  have HD := hide hd
  have HBT := hide hbt
  have hn0 : (en != 0) = true := by simp [he]
  have HC := hide (fun W => recSteady_any pg num kp ph tr s0 v0 s1 v1 th W hr.1 hr.2.1)
  have HR := hide (fun (W : World) (hW : DevAt W b t key F on wait next age) => recorded_ok (next_ok (p := 0) (q := 0) (k := kp) (t := 0) hr (by omega) (by omega) hr.2.2.1 (by omega)) hW)
  clear hd hbt hr
  go_enter Tryz.func185, Tryz.ntmps185
  go_wp2_with fail
  refine (unhide HBT _ ((((unhide HD).alloc _).alloc _).alloc _)).mono ?_
  rintro e w1 ⟨rfl, hb1⟩
  obtain ⟨k1, k2, k3, hs1, hb⟩ := blk3 hb1
  have HD1 := hide (((((unhide HD).alloc _).alloc _).alloc _).kept hb1)
  obtain ⟨hx1, hf1⟩ := block_facts k1
  have K3 := hide k3
  have HB1 := hide hb
  clear hb hb1 k1 k2 k3
  have l1 : w.heap.size < w1.heap.size := (by omega); have n1 : ¬ w.heap.size = w1.heap.size := (by omega)
  go_wp2_with fail
  refine (unhide HC _).mono ?_
  rintro e w2 ⟨rfl, hb2⟩
  have HD2 := hide ((unhide HD1).kept hb2)
  have K3' := hide (kept_block hb2 (unhide K3))
  have hs2 := hb2.size
  have HB2 := hide hb2
  clear hb2 hx1 hf1 K3 HD1
  generalize hN : (num + 1) % 256 = N at *; generalize hP : 1 - pg = P at *; have HN := hide hN; have HP := hide hP; clear hN hP
  go_wp2_with fail
  refine (unhide HR _ (unhide HD2)).mono ?_
  rintro e w3 ⟨g, rfl, hown, hb3⟩
  obtain ⟨hx3, hf3⟩ := block_facts (kept_block hb3 (unhide K3'))
  have hs3 := hb3.size
  have HO : Hid (w3.ownsRow w2.heap.size 136 2 (.slice (some ⟨g, 0, none⟩) 1 1) 1 (gwCells [(P, recP N kp 0 0 s0 v0 s1 v1 0)])) := hown
  have HB3 := hide hb3
  clear hown hb3
  have l3 : w.heap.size + 1 + 1 < w3.heap.size := (by omega); have n3 : ¬ w.heap.size + 1 + 1 = w3.heap.size := (by omega)
  go_wp2
  refine bodyPost_ret (v := outV (.slice (some ⟨g, 0, none⟩) 1 1) on wait next age en ⟨#[]⟩ (-1)) (by simp [results, Tryz.results185, go_sem, hx3, l3]) rfl ⟨some ⟨g, 0, none⟩, 1, rfl, ?_, ?_⟩
  · rw [HN.out, HP.out]
    refine ownsRow_base (base' := w2.heap.size) ?_ (by omega)
    repeat (first | with_reducible refine World.ownsRow.alloc ?_ _ | (with_reducible refine oset ?_ ?_; (focus omega)))
    exact unhide HO
  · repeat (first | with_reducible exact unhide HB | with_reducible exact Below.refl _ _ | with_reducible refine bdrew ?_ | (with_reducible refine brow ?_ ?_; (focus (first | omega | (simp; done) | (simp; omega)))) | (with_reducible refine bset ?_ ?_; (focus (first | omega | (simp; done) | (simp; omega)))) | (with_reducible refine balloc ?_ ?_; (focus (first | omega | (simp; done) | (simp; omega)))) | (with_reducible refine bvia (unhide HB1) ?_ ?_; (focus (first | omega | (simp; done) | (simp; omega)))) | (with_reducible refine bvia (unhide HB2) ?_ ?_; (focus (first | omega | (simp; done) | (simp; omega)))) | (with_reducible refine bvia (unhide HB3) ?_ ?_; (focus (first | omega | (simp; done) | (simp; omega)))) | (with_reducible refine bvia (unhide HB4) ?_ ?_; (focus (first | omega | (simp; done) | (simp; omega)))) | (with_reducible refine bvia (unhide HB5) ?_ ?_; (focus (first | omega | (simp; done) | (simp; omega)))) | (with_reducible refine bvia (unhide HB6) ?_ ?_; (focus (first | omega | (simp; done) | (simp; omega)))))
theorem tryRec_ok {s v : Nat} (h : RecOk pg num kp ph tr s0 v0 s1 v1 th) (hs : s < 256) (hv : v ≤ 65535) : RecOk (1 - pg) ((num + 1) % 256) kp 2 3 (if kp = 0 then s0 else s) (if kp = 0 then v0 else v) (if kp = 0 then s else s1) (if kp = 0 then v else v1) 0 := by
  obtain ⟨h0, h1, h2, h3, h4, h5, h6, h7, h8, h9⟩ := h
  refine ⟨by omega, by omega, h2, by omega, by omega, ?_, ?_, ?_, ?_, by omega⟩ <;> split <;> assumption
set_option maxRecDepth 10000 in
set_option maxHeartbeats 4000000 in
theorem rawInstall_yes (hd : DevAt w b t key F on wait next age) (hr : RecOk pg num kp ph tr s0 v0 s1 v1 th) (im : ByteArray) (hi : im.size ≤ 96) (a0 : Nat) (ha0 : a0 ≤ 65535) (a2 a4 a5 a6 : Int) (ao : Option Addr) (n cap : Nat) (x1 : Bool) (x2 x3 : ByteArray)
    (hbt : ∀ (W : World) (_ : DevAt W b t key F on wait next age), Calls Tryz.prog 195 #[.pointer (some ⟨b, 0, none⟩), recV pg num kp ph tr s0 v0 s1 v1 th, manV a0 a2 a4 a5 a6 (.slice ao n cap) x1 x2 x3] W fun e w' => e = .returned (.tuple #[.string im, .int .i64 0]) ∧ Below W.heap.size W w') :
    Calls Tryz.prog 185 #[.pointer (some ⟨b, 0, none⟩), recV pg num kp ph tr s0 v0 s1 v1 th, manV a0 a2 a4 a5 a6 (.slice ao n cap) x1 x2 x3] w fun e w' => OutRaw w on wait next 0 0 ⟨#[]⟩ (-1) (spreadG (11 + 6 * (1 - kp)) (M.chunksN im.size) im ++ [(1 - pg, recP ((num + 1) % 256) kp 2 3 (if kp = 0 then s0 else im.size) (if kp = 0 then v0 else a0) (if kp = 0 then im.size else s1) (if kp = 0 then a0 else v1) 0)]) e w' := by
  have HD := hide hd
  have HBT := hide hbt
  have hk := hr.2.2.1
  have hcn : M.chunksN im.size ≤ 6 := by unfold M.chunksN; omega
  have HOT := hide (fun W => recOther_any pg num kp ph tr s0 v0 s1 v1 th W hk)
  have HSP := hide (fun W => spread_any (11 + 6 * (1 - kp)) (M.chunksN im.size) im W (by unfold maxLen; omega) (by omega) (by omega))
  have HNE := hide (fun W => needed_any im.size W (by omega))
  have HTR := hide (fun W => recTrying_any pg num kp ph tr s0 v0 s1 v1 th im.size a0 W hr.1 hr.2.1)
  have HW := hide (fun W => written_ok (tryRec_ok hr (s := im.size) (v := a0) (by omega) ha0) W)
  have HL := hide (spreadG_length (11 + 6 * (1 - kp)) (M.chunksN im.size) im)
  generalize hq0 : (if kp = 0 then s0 else im.size) = q0 at *
  generalize hq1 : (if kp = 0 then v0 else a0) = q1 at *
  generalize hq2 : (if kp = 0 then im.size else s1) = q2 at *
  generalize hq3 : (if kp = 0 then a0 else v1) = q3 at *
  clear hq0 hq1 hq2 hq3
  clear hd hbt hr
  go_enter Tryz.func185, Tryz.ntmps185
  go_wp2_with fail
  refine (unhide HBT _ ((((unhide HD).alloc _).alloc _).alloc _)).mono ?_
  rintro e w1 ⟨rfl, hb1⟩
  obtain ⟨k1, k2, k3, hs1, hb⟩ := blk3 hb1
  have HD1 := hide (((((unhide HD).alloc _).alloc _).alloc _).kept hb1)
  obtain ⟨hx2, hf2⟩ := block_facts k2
  have K1 := hide k1
  have K3 := hide k3
  have HB1 := hide hb
  clear hb hb1 k1 k2 k3
  have l2 : w.heap.size + 1 < w1.heap.size := (by omega); have n2 : ¬ w.heap.size + 1 = w1.heap.size := (by omega)
  go_wp2_with fail
  refine (devStill_any ((unhide HD1).alloc _)).mono ?_
  rintro e w2 ⟨rfl, hb2⟩
  have k1 := kept_block hb2 (alloc_block (unhide K1) _)
  have K3' := hide (kept_block hb2 (alloc_block (unhide K3) _))
  obtain ⟨kS, hs2, hb⟩ := blk1 hb2
  have KS := hide kS
  have K1' := hide k1
  obtain ⟨hx1, hf1⟩ := block_facts k1
  have HB2 := hide hb
  clear hb hb2 kS k1 K1 K3 HD1 hx2 hf2
  have l1 : w.heap.size < w2.heap.size := (by omega); have n1 : ¬ w.heap.size = w2.heap.size := (by omega)
  go_wp2_with fail
  refine (unhide HOT _).mono ?_
  rintro e w3 ⟨rfl, hb3⟩
  have K1 := hide (kept_block hb3 (alloc_block (unhide K1') _))
  have K3 := hide (kept_block hb3 (alloc_block (unhide K3') _))
  have KS3 := hide (kept_block hb3 (alloc_block (unhide KS) _))
  obtain ⟨kO, hs3, hb⟩ := blk1 hb3
  have KO3 := hide kO
  have HB3 := hide hb
  clear hb hb3 kO K1' K3' KS hx1 hf1
  generalize hKK : 1 - kp = kk at *
  have HKK := hide hKK
  clear hKK
  go_wp2_with fail
  refine (slotPage_any kk _ (by have := HKK.out; omega)).mono ?_
  rintro e w' ⟨rfl, rfl⟩
  generalize hPG : 11 + 6 * kk = pgs at *
  have HPG := hide hPG
  clear hPG
  go_wp2_with fail
  refine (unhide HNE _).mono ?_
  rintro e w' ⟨rfl, rfl⟩
  generalize hCN : M.chunksN im.size = cn at *
  have HCN := hide hCN
  clear hCN
  go_wp2_with fail
  refine (unhide HSP _).mono ?_
  rintro e w4 ⟨v4, rfl, hown4, hb4⟩
  obtain ⟨ao4, cap4, rfl, -⟩ := (holdsRow_own hown4).shape
  have K14 := hide (kept_block hb4 (unhide K1))
  have K34 := hide (kept_block hb4 (unhide K3))
  have KS4 := hide (kept_block hb4 (unhide KS3))
  have kO4 := kept_block hb4 (unhide KO3)
  obtain ⟨hxO, hfO⟩ := block_facts kO4
  have KO4 := hide kO4
  have hs4 := hb4.size
  have HO4 := hide hown4
  have HB4 : Hid (Below w.heap.size w w4) := by
    show Below _ _ _
    refine bvia hb4 (by omega) ?_
    repeat (first | with_reducible exact unhide HB | with_reducible exact Below.refl _ _ | with_reducible refine bdrew ?_ | (with_reducible refine brow ?_ ?_; (focus (first | omega | (simp; done) | (simp; omega)))) | (with_reducible refine bset ?_ ?_; (focus (first | omega | (simp; done) | (simp; omega)))) | (with_reducible refine balloc ?_ ?_; (focus (first | omega | (simp; done) | (simp; omega)))) | (with_reducible refine bvia (unhide HB1) ?_ ?_; (focus (first | omega | (simp; done) | (simp; omega)))) | (with_reducible refine bvia (unhide HB2) ?_ ?_; (focus (first | omega | (simp; done) | (simp; omega)))) | (with_reducible refine bvia (unhide HB3) ?_ ?_; (focus (first | omega | (simp; done) | (simp; omega)))) | (with_reducible refine bvia (unhide HB4) ?_ ?_; (focus (first | omega | (simp; done) | (simp; omega)))) | (with_reducible refine bvia (unhide HB5) ?_ ?_; (focus (first | omega | (simp; done) | (simp; omega)))) | (with_reducible refine bvia (unhide HB6) ?_ ?_; (focus (first | omega | (simp; done) | (simp; omega)))))
  clear hb4 hown4 kO4 K1 K3 KS3 KO3 HB1 HB2 HB3
  generalize hN : (num + 1) % 256 = N at *; generalize hP : 1 - pg = P at *; have HN := hide hN; have HP := hide hP; clear hN hP
  have HLc : Hid ((spreadG pgs cn im).length = cn) := HL
  go_wp2_with fail
  have kO9 := (setCell_in (unhide KO4) 0 (.slice ao4 cn cap4)).trans rfl
  have KO9 : Hid ((w4.setCell ⟨w2.heap.size, 0, none⟩ (.slice ao4 cn cap4)).heap[w2.heap.size]? = some (.cells (outC (.slice ao4 cn cap4) on wait next age 0 ⟨#[]⟩ (-1)) 163 (0, 0))) := kO9
  have KS9 : Hid ((w4.setCell ⟨w2.heap.size, 0, none⟩ (.slice ao4 cn cap4)).heap[w1.heap.size]? = some (.cells #[.int .i64 (im.size : Int), .int .i64 a0] 131 (0, 0))) := set_block (unhide KS4) (by omega)
  have K19 : Hid ((w4.setCell ⟨w2.heap.size, 0, none⟩ (.slice ao4 cn cap4)).heap[w.heap.size]? = some (.cells #[.int .i64 pg, .int .i64 num, .int .i64 kp, .int .i64 ph, .int .i64 tr, .int .i64 s0, .int .i64 v0, .int .i64 s1, .int .i64 v1, .int .i64 th] 133 (0, 0))) := set_block (unhide K14) (by omega)
  have HO9 : Hid ((w4.setCell ⟨w2.heap.size, 0, none⟩ (.slice ao4 cn cap4)).ownsRow w3.heap.size 136 2 (.slice ao4 cn cap4) cn (gwCells (spreadG pgs cn im))) := ownsRow_setCell_below (unhide HO4) (a := ⟨w2.heap.size, 0, none⟩) (by show w2.heap.size < w3.heap.size; omega) _
  have hz9 : (w4.setCell ⟨w2.heap.size, 0, none⟩ (.slice ao4 cn cap4)).heap.size = w4.heap.size := by simp
  have HB9 : Hid (Below w.heap.size w (w4.setCell ⟨w2.heap.size, 0, none⟩ (.slice ao4 cn cap4))) := (unhide HB4).setCell (by show w.heap.size ≤ w2.heap.size; omega) _
  have K39 : Hid ((w4.setCell ⟨w2.heap.size, 0, none⟩ (.slice ao4 cn cap4)).heap[w.heap.size + 1 + 1]? = some (.cells (outC (.slice none 0 0) false 0 0 0 0 ⟨#[]⟩ 0) 163 (0, 0))) := set_block (unhide K34) (by omega)
  clear kO9 KO4 KS4 K14 HO4 HB4 K34 hxO hfO
  generalize (w4.setCell ⟨w2.heap.size, 0, none⟩ (.slice ao4 cn cap4)) = W9 at *
  obtain ⟨hx1, hf1⟩ := block_facts (unhide K19)
  obtain ⟨hxS, hfS⟩ := block_facts (unhide KS9)
  obtain ⟨hxO, hfO⟩ := block_facts (unhide KO9)
  generalize hT : recP N kp 2 3 q0 q1 q2 q3 0 = T at *
  have HT := hide hT
  clear hT
  have hsz9 : w3.heap.size ≤ W9.heap.size := by omega
  go_region_law ((first | (refine step_write rfl (.tmp 45) (.tmp 50) rfl w3.heap.size (.slice ao4 cn cap4) (spreadG pgs cn im) (P, T) _ (by rfl) (by rfl) (by simp) (by simp) (by rw [HLc.out]; exact (unhide HOB).alloc _) (by rw [HLc.out]; omega) (by simp; omega) ?_; intro v5 w5 hown5 hbel5 hsz5; have hB5 := hbel5 wB ((Below.refl _ _).alloc (by omega) _); obtain ⟨ao5, cap5, hv5, -⟩ := (holdsRow_own hown5).shape; subst hv5; have kO5 := (hB5.block w2.heap.size (by omega)).trans (unhide KOB); obtain ⟨hxO5, hfO5⟩ := block_facts kO5) | (go_simp; go_at_call 196; refine (unhide HTR _).mono ?_; rintro e wA ⟨rfl, hbA⟩; have KOA := hide (kept_block hbA (drew_block (unhide KO9))); have HOA := hide (ownsRow_below (World.ownsRow.drew (unhide HO9)) hbA); have hsA := hbA.size; simp at hsA; obtain ⟨hxOA, hfOA⟩ := block_facts (unhide KOA)) | (go_simp; go_at_call 75; refine (unhide HW _).mono ?_; rintro e wB ⟨rfl, hbB⟩; have KOB := hide (kept_block hbB (unhide KOA)); have HOB := hide (ownsRow_below (unhide HOA) hbB); have hsB := hbB.size; have lB : w2.heap.size < wB.heap.size := (by omega); have nB : ¬ w2.heap.size = wB.heap.size := (by omega); obtain ⟨hxOB, hfOB⟩ := block_facts (unhide KOB))))
  all_goals
    obtain ⟨hx3, hf3⟩ := block_facts ((hB5.block (w.heap.size + 1 + 1) (by omega)).trans (kept_block hbB (kept_block hbA (drew_block (unhide K39)))))
    have HB : Hid (Below w.heap.size w w5) := (bvia hbB (by omega) (bvia hbA (by simp; omega) ((unhide HB9).drew))).trans (hB5.mono (by omega))
    have HO5 := hide hown5
    have hs5 : w3.heap.size < w5.heap.size := by simp at hsz5; omega
    clear hown5 hbel5 hB5 hbA hbB hx1 hf1 hxS hfS hxO hfO hxOA hfOA hxOB hfOB kO5 HBT HOT HSP HNE HTR HW
    have l5 : w.heap.size + 1 + 1 < w5.heap.size := by omega
    have n5 : ¬ w.heap.size + 1 + 1 = w2.heap.size := by omega
    have n6 : ¬ w2.heap.size = w.heap.size + 1 + 1 := by omega
    go_wp2
    refine bodyPost_ret (v := outV (.slice ao5 ((spreadG pgs cn im).length + 1) cap5) on wait next 0 0 ⟨#[]⟩ (-1)) (by simp [results, Tryz.results185, go_sem, hx3]) rfl ?_
    rw [HKK.out, HPG.out, HCN.out, HN.out, HP.out, HT.out]
    refine ⟨ao5, cap5, by rw [List.length_append]; rfl, ?_, ?_⟩
    · refine ownsRow_base (base' := w3.heap.size) ?_ (by omega)
      repeat (first | with_reducible refine World.ownsRow.alloc ?_ _ | (with_reducible refine oset ?_ ?_; (focus omega)))
      exact unhide HO5
    · repeat (first | with_reducible exact unhide HB | with_reducible exact Below.refl _ _ | with_reducible refine bdrew ?_ | (with_reducible refine brow ?_ ?_; (focus (first | omega | (simp; done) | (simp; omega)))) | (with_reducible refine bset ?_ ?_; (focus (first | omega | (simp; done) | (simp; omega)))) | (with_reducible refine balloc ?_ ?_; (focus (first | omega | (simp; done) | (simp; omega)))) | (with_reducible refine bvia (unhide HB1) ?_ ?_; (focus (first | omega | (simp; done) | (simp; omega)))) | (with_reducible refine bvia (unhide HB2) ?_ ?_; (focus (first | omega | (simp; done) | (simp; omega)))) | (with_reducible refine bvia (unhide HB3) ?_ ?_; (focus (first | omega | (simp; done) | (simp; omega)))) | (with_reducible refine bvia (unhide HB4) ?_ ?_; (focus (first | omega | (simp; done) | (simp; omega)))) | (with_reducible refine bvia (unhide HB5) ?_ ?_; (focus (first | omega | (simp; done) | (simp; omega)))) | (with_reducible refine bvia (unhide HB6) ?_ ?_; (focus (first | omega | (simp; done) | (simp; omega)))))
end
end Go.Proofs.YtjfmiomopfjecabGreat

/- A tick while chunks come. -/
namespace Go.Proofs.YtjfmiomopfjecabGreat
open Go.RowKit Go.Lib

section
variable {pg num kp ph tr s0 v0 s1 v1 th : Nat} {w : World} {b : Nat} {t : TypeId} {key : ByteArray} {F : Nat → Nat} {on : Bool} {wait next age : Nat}
set_option maxRecDepth 10000 in
set_option maxHeartbeats 1000000 in
theorem rawFetch_install (hd : DevAt w b t key F on wait next age) (hF : ∀ j, F j < 256) {at_ : Nat} (hs : M.sealX (M.mf F) = some at_) (hth : th < 256) (hall : ∀ j, j < M.chunksN (M.mf F 4) → th / 2 ^ j % 2 = 1)
    (wait' next' age' : Nat) (err : Int) (text : ByteArray) (ask : Int) (l : List GW)
    (hin : ∀ (W : World) (ao : Option Addr) (n cap : Nat) (_ : DevAt W b t key F on wait next age), Calls Tryz.prog 185 #[.pointer (some ⟨b, 0, none⟩), recV pg num kp ph tr s0 v0 s1 v1 th, manOf (M.mf F) (.slice ao n cap)] W fun e w' => OutRaw W on wait' next' age' err text ask l e w') :
    Calls Tryz.prog 159 #[.pointer (some ⟨b, 0, none⟩), recV pg num kp ph tr s0 v0 s1 v1 th] w fun e w' => OutRaw w on wait' next' age' err text ask l e w' := by
  have HD := hide hd
  have hle := M.sealX_le hs
  have HM := hide (fun (W : World) (hW : DevAt W b t key F on wait next age) => devManifest_any hW hF hs)
  have HCH := hide (fun (W : World) (v : Value) => manChunks_any (M.numAt (M.mf F) 0) (M.numAt (M.mf F) 2) (M.numAt (M.mf F) 6) (M.mf F 5) (M.mf F 4) v (M.exB (M.mf F)) (M.exQ (M.mf F)) (M.exA (M.mf F)) W (by omega))
  have HWN := hide (fun W => recWanted_none pg num kp ph tr s0 v0 s1 v1 th (M.chunksN (M.mf F 4)) W hth hle.2.2.2.2.2.2 hall)
  have HIN := hide hin
  clear hd hs hle hall hin
  generalize M.chunksN (M.mf F 4) = c at *
  unfold manOf at *
  generalize M.numAt (M.mf F) 0 = a0 at *
  generalize M.numAt (M.mf F) 2 = a2 at *
  generalize M.numAt (M.mf F) 6 = a6 at *
  generalize M.mf F 4 = a4 at *
  generalize M.mf F 5 = a5 at *
  generalize M.exB (M.mf F) = x1 at *
  generalize M.exQ (M.mf F) = x2 at *
  generalize M.exA (M.mf F) = x3 at *
  go_enter Tryz.func159, Tryz.ntmps159
  go_wp2_with fail
  refine (unhide HM _ (((unhide HD).alloc _).alloc _)).mono ?_
  rintro e w1 ⟨ao, cap, rfl, hown, hb1⟩
  clear hown
  obtain ⟨k1, k2, hs1, hb⟩ := blk2 hb1
  have HD1 := hide ((((unhide HD).alloc _).alloc _).kept hb1)
  have K1 := hide k1
  have K2 := hide k2
  have HB1 := hide hb
  clear hb hb1 k1 k2
  go_wp2_with fail
  have rule1 : ∀ (X : World) (o : Nat), X.heap[w.heap.size]? = some (.cells #[.int .i64 pg, .int .i64 num, .int .i64 kp, .int .i64 ph, .int .i64 tr, .int .i64 s0, .int .i64 v0, .int .i64 s1, .int .i64 v1, .int .i64 th] 133 (0, 0)) → X.cell? ⟨w.heap.size, o, none⟩ = (#[.int .i64 pg, .int .i64 num, .int .i64 kp, .int .i64 ph, .int .i64 tr, .int .i64 s0, .int .i64 v0, .int .i64 s1, .int .i64 v1, .int .i64 th] : Array Value)[o]? := fun X o h => cell_in h o
  have rule2 : ∀ (X : World) (o : Nat), X.heap[w1.heap.size]? = some (.cells (manC a0 a2 a4 a5 a6 (.slice ao c cap) x1 x2 x3) 143 (0, 0)) → X.cell? ⟨w1.heap.size, o, none⟩ = (manC a0 a2 a4 a5 a6 (.slice ao c cap) x1 x2 x3)[o]? := fun X o h => cell_in h o
  go_region_held3 (fun X => X.heap[w.heap.size]? = some (.cells #[.int .i64 pg, .int .i64 num, .int .i64 kp, .int .i64 ph, .int .i64 tr, .int .i64 s0, .int .i64 v0, .int .i64 s1, .int .i64 v1, .int .i64 th] 133 (0, 0)) ∧ X.heap[w1.heap.size]? = some (.cells (manC a0 a2 a4 a5 a6 (.slice ao c cap) x1 x2 x3) 143 (0, 0))) (first | with_reducible exact ⟨hB1, hB2⟩ | with_reducible exact ⟨hA1, hA2⟩ | with_reducible exact ⟨drew_block (alloc_block (unhide K1) _), drew_block (last_block _ _ rfl)⟩) ((first | (go_at_call 85; refine (unhide HCH _ _).mono ?_; rintro e wA ⟨rfl, hbA⟩; have hA1 := kept_block hbA (drew_block (alloc_block (unhide K1) _)); have hA2 := kept_block hbA (drew_block (last_block _ _ rfl))) | (go_at_call 184; refine (unhide HWN _).mono ?_; rintro e wB ⟨rfl, hbB⟩; have hB1 := kept_block hbB hA1; have hB2 := kept_block hbB hA2)))
  have K2B := hide (kept_block hbB (kept_block hbA (drew_block (alloc_block (unhide K2) _))))
  have HDB := hide ((((((unhide HD1).alloc _).drew).kept hbA)).kept hbB)
  have hsA := hbA.size
  have hsB := hbB.size
  simp at hsA
  have HB4 := hide hbA
  have HB5 := hide hbB
  obtain ⟨hx1, hf1⟩ := block_facts hB1
  obtain ⟨hx2, hf2⟩ := block_facts hB2
  clear rule1 rule2 hA1 hA2 hB1 hB2 hbA hbB K1 K2 HD1 HCH HWN HM
  go_wp2_with fail
  refine (unhide HIN _ ao c cap (unhide HDB)).mono ?_
  rintro e w3 ⟨ao3, cap3, rfl, hown, hb3⟩
  obtain ⟨hx3, hf3⟩ := block_facts (kept_block hb3 (unhide K2B))
  have hs3 := hb3.size
  have HO := hide hown
  have HB6 := hide hb3
  clear hown hb3 hx1 hf1 hx2 hf2
  generalize hn : l.length = n at *
  have HN := hide hn
  clear hn
  have l3 : w.heap.size + 1 < w3.heap.size := (by omega); have n3 : ¬ w.heap.size + 1 = w3.heap.size := (by omega)
  go_wp2
  refine bodyPost_ret (v := outV (.slice ao3 n cap3) on wait' next' age' err text ask) (by simp [results, Tryz.results159, go_sem, hx3]) rfl ?_
  refine ⟨ao3, cap3, by rw [HN.out], ?_, ?_⟩
  · rw [HN.out]
    refine ownsRow_base (base' := wB.heap.size) ?_ (by omega)
    repeat (with_reducible refine oset ?_ ?_; (focus omega))
    exact unhide HO
  · repeat (first | with_reducible exact unhide HB | with_reducible exact Below.refl _ _ | with_reducible refine bdrew ?_ | (with_reducible refine brow ?_ ?_; (focus (first | omega | (simp; done) | (simp; omega)))) | (with_reducible refine bset ?_ ?_; (focus (first | omega | (simp; done) | (simp; omega)))) | (with_reducible refine balloc ?_ ?_; (focus (first | omega | (simp; done) | (simp; omega)))) | (with_reducible refine bvia (unhide HB1) ?_ ?_; (focus (first | omega | (simp; done) | (simp; omega)))) | (with_reducible refine bvia (unhide HB2) ?_ ?_; (focus (first | omega | (simp; done) | (simp; omega)))) | (with_reducible refine bvia (unhide HB3) ?_ ?_; (focus (first | omega | (simp; done) | (simp; omega)))) | (with_reducible refine bvia (unhide HB4) ?_ ?_; (focus (first | omega | (simp; done) | (simp; omega)))) | (with_reducible refine bvia (unhide HB5) ?_ ?_; (focus (first | omega | (simp; done) | (simp; omega)))) | (with_reducible refine bvia (unhide HB6) ?_ ?_; (focus (first | omega | (simp; done) | (simp; omega)))))
set_option maxRecDepth 10000 in
set_option maxHeartbeats 2000000 in
theorem rawFetch_ask (hd : DevAt w b t key F on wait next age) (hF : ∀ j, F j < 256) {at_ : Nat} (hs : M.sealX (M.mf F) = some at_) (hth : th < 256) (i : Nat) (hi : i < M.chunksN (M.mf F 4)) (hno : th / 2 ^ i % 2 = 0) (hall : ∀ j, j < i → th / 2 ^ j % 2 = 1) (hw8 : wait ≤ 1000) (hn8 : next ≤ 1000) :
    Calls Tryz.prog 159 #[.pointer (some ⟨b, 0, none⟩), recV pg num kp ph tr s0 v0 s1 v1 th] w fun e w' => OutRaw w on (if wait ≤ 1 then next else wait - 1) (if wait ≤ 1 then min 8 (2 * next) else next) age 0 ⟨#[]⟩ (if wait ≤ 1 then (i : Int) else -1) [] e w' := by
  have HD := hide hd
  have hle := M.sealX_le hs
  have HM := hide (fun (W : World) (hW : DevAt W b t key F on wait next age) => devManifest_any hW hF hs)
  have HCH := hide (fun (W : World) (v : Value) => manChunks_any (M.numAt (M.mf F) 0) (M.numAt (M.mf F) 2) (M.numAt (M.mf F) 6) (M.mf F 5) (M.mf F 4) v (M.exB (M.mf F)) (M.exQ (M.mf F)) (M.exA (M.mf F)) W (by omega))
  have HWN := hide (fun W => recWanted_some pg num kp ph tr s0 v0 s1 v1 th (M.chunksN (M.mf F 4)) i W hth hle.2.2.2.2.2.2 hi hno hall)
  clear hd hs hle hall hno
  generalize M.chunksN (M.mf F 4) = c at *
  unfold manOf at *
  generalize M.numAt (M.mf F) 0 = a0 at *
  generalize M.numAt (M.mf F) 2 = a2 at *
  generalize M.numAt (M.mf F) 6 = a6 at *
  generalize M.mf F 4 = a4 at *
  generalize M.mf F 5 = a5 at *
  generalize M.exB (M.mf F) = x1 at *
  generalize M.exQ (M.mf F) = x2 at *
  generalize M.exA (M.mf F) = x3 at *
  go_enter Tryz.func159, Tryz.ntmps159
  go_wp2_with fail
  refine (unhide HM _ (((unhide HD).alloc _).alloc _)).mono ?_
  rintro e w1 ⟨ao, cap, rfl, hown, hb1⟩
  clear hown
  obtain ⟨k1, k2, hs1, hb⟩ := blk2 hb1
  have HD1 := hide ((((unhide HD).alloc _).alloc _).kept hb1)
  have K1 := hide k1
  have K2 := hide k2
  have HB1 := hide hb
  clear hb hb1 k1 k2
  go_wp2_with fail
  have rule1 : ∀ (X : World) (o : Nat), X.heap[w.heap.size]? = some (.cells #[.int .i64 pg, .int .i64 num, .int .i64 kp, .int .i64 ph, .int .i64 tr, .int .i64 s0, .int .i64 v0, .int .i64 s1, .int .i64 v1, .int .i64 th] 133 (0, 0)) → X.cell? ⟨w.heap.size, o, none⟩ = (#[.int .i64 pg, .int .i64 num, .int .i64 kp, .int .i64 ph, .int .i64 tr, .int .i64 s0, .int .i64 v0, .int .i64 s1, .int .i64 v1, .int .i64 th] : Array Value)[o]? := fun X o h => cell_in h o
  have rule2 : ∀ (X : World) (o : Nat), X.heap[w1.heap.size]? = some (.cells (manC a0 a2 a4 a5 a6 (.slice ao c cap) x1 x2 x3) 143 (0, 0)) → X.cell? ⟨w1.heap.size, o, none⟩ = (manC a0 a2 a4 a5 a6 (.slice ao c cap) x1 x2 x3)[o]? := fun X o h => cell_in h o
  go_region_held3 (fun X => X.heap[w.heap.size]? = some (.cells #[.int .i64 pg, .int .i64 num, .int .i64 kp, .int .i64 ph, .int .i64 tr, .int .i64 s0, .int .i64 v0, .int .i64 s1, .int .i64 v1, .int .i64 th] 133 (0, 0)) ∧ X.heap[w1.heap.size]? = some (.cells (manC a0 a2 a4 a5 a6 (.slice ao c cap) x1 x2 x3) 143 (0, 0))) (first | with_reducible exact ⟨hB1, hB2⟩ | with_reducible exact ⟨hA1, hA2⟩ | with_reducible exact ⟨drew_block (alloc_block (unhide K1) _), drew_block (last_block _ _ rfl)⟩) ((first | (go_at_call 85; refine (unhide HCH _ _).mono ?_; rintro e wA ⟨rfl, hbA⟩; have hA1 := kept_block hbA (drew_block (alloc_block (unhide K1) _)); have hA2 := kept_block hbA (drew_block (last_block _ _ rfl))) | (go_at_call 184; refine (unhide HWN _).mono ?_; rintro e wB ⟨rfl, hbB⟩; have hB1 := kept_block hbB hA1; have hB2 := kept_block hbB hA2)))
  have K2B := hide (kept_block hbB (kept_block hbA (drew_block (alloc_block (unhide K2) _))))
  have HDB := hide ((((((unhide HD1).alloc _).drew).kept hbA)).kept hbB)
  have hsA := hbA.size
  have hsB := hbB.size
  simp at hsA
  have HB4 := hide hbA
  have HB5 := hide hbB
  clear rule1 rule2 hA1 hA2 hB1 hB2 hbA hbB K1 K2 HD1 HCH HWN HM
  have hi0 : ¬ (i : Int) < 0 := by omega
  go_wp2_with fail
  refine (devStill_any (unhide HDB)).mono ?_
  rintro e w3 ⟨rfl, hb3⟩
  obtain ⟨hx3, hf3⟩ := block_facts (kept_block hb3 (unhide K2B))
  have hs3 := hb3.size
  have HB6 := hide hb3
  clear hb3
  have l3 : w.heap.size + 1 < w3.heap.size := (by omega); have n3 : ¬ w.heap.size + 1 = w3.heap.size := (by omega)
  have HB0 : Hid (Below w.heap.size w w3) := by
    show Below _ _ _
    repeat (first | with_reducible exact unhide HB | with_reducible exact Below.refl _ _ | with_reducible refine bdrew ?_ | (with_reducible refine brow ?_ ?_; (focus (first | omega | (simp; done) | (simp; omega)))) | (with_reducible refine bset ?_ ?_; (focus (first | omega | (simp; done) | (simp; omega)))) | (with_reducible refine balloc ?_ ?_; (focus (first | omega | (simp; done) | (simp; omega)))) | (with_reducible refine bvia (unhide HB1) ?_ ?_; (focus (first | omega | (simp; done) | (simp; omega)))) | (with_reducible refine bvia (unhide HB2) ?_ ?_; (focus (first | omega | (simp; done) | (simp; omega)))) | (with_reducible refine bvia (unhide HB3) ?_ ?_; (focus (first | omega | (simp; done) | (simp; omega)))) | (with_reducible refine bvia (unhide HB4) ?_ ?_; (focus (first | omega | (simp; done) | (simp; omega)))) | (with_reducible refine bvia (unhide HB5) ?_ ?_; (focus (first | omega | (simp; done) | (simp; omega)))) | (with_reducible refine bvia (unhide HB6) ?_ ?_; (focus (first | omega | (simp; done) | (simp; omega)))))
  clear HB1 HB4 HB5 HB6
  have HB := HB0
  clear HB0
  by_cases h0 : wait = 0
  · subst h0
    go_wp2_with fail
    refine (devLonger_any next _ hn8).mono ?_
    rintro e w' ⟨rfl, rfl⟩
    generalize hm : min 8 (2 * next) = nx at *
    have HM := hide hm
    clear hm
    go_wp2
    refine bodyPost_ret (v := outV (.slice none 0 0) on next nx age 0 ⟨#[]⟩ i) (by simp [results, Tryz.results159, go_sem, hx3, l3]) rfl (raw_none (by rw [HM.out]) ?_)
    repeat (first | with_reducible exact unhide HB | with_reducible exact Below.refl _ _ | with_reducible refine bdrew ?_ | (with_reducible refine brow ?_ ?_; (focus (first | omega | (simp; done) | (simp; omega)))) | (with_reducible refine bset ?_ ?_; (focus (first | omega | (simp; done) | (simp; omega)))) | (with_reducible refine balloc ?_ ?_; (focus (first | omega | (simp; done) | (simp; omega)))) | (with_reducible refine bvia (unhide HB1) ?_ ?_; (focus (first | omega | (simp; done) | (simp; omega)))) | (with_reducible refine bvia (unhide HB2) ?_ ?_; (focus (first | omega | (simp; done) | (simp; omega)))) | (with_reducible refine bvia (unhide HB3) ?_ ?_; (focus (first | omega | (simp; done) | (simp; omega)))) | (with_reducible refine bvia (unhide HB4) ?_ ?_; (focus (first | omega | (simp; done) | (simp; omega)))) | (with_reducible refine bvia (unhide HB5) ?_ ?_; (focus (first | omega | (simp; done) | (simp; omega)))) | (with_reducible refine bvia (unhide HB6) ?_ ?_; (focus (first | omega | (simp; done) | (simp; omega)))))
  by_cases h1 : wait = 1
  · subst h1
    go_wp2_with fail
    refine (devLonger_any next _ hn8).mono ?_
    rintro e w' ⟨rfl, rfl⟩
    generalize hm : min 8 (2 * next) = nx at *
    have HM := hide hm
    clear hm
    go_wp2
    refine bodyPost_ret (v := outV (.slice none 0 0) on next nx age 0 ⟨#[]⟩ i) (by simp [results, Tryz.results159, go_sem, hx3, l3]) rfl (raw_none (by rw [HM.out]) ?_)
    repeat (first | with_reducible exact unhide HB | with_reducible exact Below.refl _ _ | with_reducible refine bdrew ?_ | (with_reducible refine brow ?_ ?_; (focus (first | omega | (simp; done) | (simp; omega)))) | (with_reducible refine bset ?_ ?_; (focus (first | omega | (simp; done) | (simp; omega)))) | (with_reducible refine balloc ?_ ?_; (focus (first | omega | (simp; done) | (simp; omega)))) | (with_reducible refine bvia (unhide HB1) ?_ ?_; (focus (first | omega | (simp; done) | (simp; omega)))) | (with_reducible refine bvia (unhide HB2) ?_ ?_; (focus (first | omega | (simp; done) | (simp; omega)))) | (with_reducible refine bvia (unhide HB3) ?_ ?_; (focus (first | omega | (simp; done) | (simp; omega)))) | (with_reducible refine bvia (unhide HB4) ?_ ?_; (focus (first | omega | (simp; done) | (simp; omega)))) | (with_reducible refine bvia (unhide HB5) ?_ ?_; (focus (first | omega | (simp; done) | (simp; omega)))) | (with_reducible refine bvia (unhide HB6) ?_ ?_; (focus (first | omega | (simp; done) | (simp; omega)))))
  have h2 : (0 : Int) < (wait : Int) := by omega
  have h3 : (0 : Int) < (wait : Int) - 1 := by omega
  go_wp2
  refine bodyPost_ret (v := outV (.slice none 0 0) on ((wait : Int) - 1) next age 0 ⟨#[]⟩ (-1)) (by simp [results, Tryz.results159, go_sem, hx3, l3]) rfl (raw_none (by rw [show ((wait - 1 : Nat) : Int) = (wait : Int) - 1 from by omega]) ?_)
  repeat (first | with_reducible exact unhide HB | with_reducible exact Below.refl _ _ | with_reducible refine bdrew ?_ | (with_reducible refine brow ?_ ?_; (focus (first | omega | (simp; done) | (simp; omega)))) | (with_reducible refine bset ?_ ?_; (focus (first | omega | (simp; done) | (simp; omega)))) | (with_reducible refine balloc ?_ ?_; (focus (first | omega | (simp; done) | (simp; omega)))) | (with_reducible refine bvia (unhide HB1) ?_ ?_; (focus (first | omega | (simp; done) | (simp; omega)))) | (with_reducible refine bvia (unhide HB2) ?_ ?_; (focus (first | omega | (simp; done) | (simp; omega)))) | (with_reducible refine bvia (unhide HB3) ?_ ?_; (focus (first | omega | (simp; done) | (simp; omega)))) | (with_reducible refine bvia (unhide HB4) ?_ ?_; (focus (first | omega | (simp; done) | (simp; omega)))) | (with_reducible refine bvia (unhide HB5) ?_ ?_; (focus (first | omega | (simp; done) | (simp; omega)))) | (with_reducible refine bvia (unhide HB6) ?_ ?_; (focus (first | omega | (simp; done) | (simp; omega)))))
set_option maxRecDepth 10000 in
set_option maxHeartbeats 1000000 in
theorem rawTick (hd : DevAt w b t key F on wait next age) (wait' next' age' : Nat) (err : Int) (text : ByteArray) (ask : Int) (l : List GW)
    (h2 : ph = 2 → ∀ (W : World) (_ : DevAt W b t key F on wait next age), Calls Tryz.prog 158 #[.pointer (some ⟨b, 0, none⟩), recV pg num kp ph tr s0 v0 s1 v1 th] W fun e w' => OutRaw W on wait' next' age' err text ask l e w')
    (h1 : ph = 1 → ∀ (W : World) (_ : DevAt W b t key F on wait next age), Calls Tryz.prog 159 #[.pointer (some ⟨b, 0, none⟩), recV pg num kp ph tr s0 v0 s1 v1 th] W fun e w' => OutRaw W on wait' next' age' err text ask l e w')
    (h0 : ph ≠ 2 → ph ≠ 1 → wait' = wait ∧ next' = next ∧ age' = age ∧ err = 0 ∧ text = ⟨#[]⟩ ∧ ask = -1 ∧ l = []) :
    Calls Tryz.prog 133 #[.pointer (some ⟨b, 0, none⟩), recV pg num kp ph tr s0 v0 s1 v1 th] w fun e w' => OutRaw w on wait' next' age' err text ask l e w' := by
  have HD := hide hd
  clear hd
  by_cases hp2 : ph = 2
  · have HX := hide (h2 hp2)
    have g2 : (ph : Int) = 2 := by omega
    clear h0 h1 h2
    subst hp2
    go_enter Tryz.func133, Tryz.ntmps133
    go_wp2_with fail
    refine (unhide HX _ (((unhide HD).alloc _).alloc _)).mono ?_
    rintro e w1 ⟨ao, cap, rfl, hown, hb1⟩
    obtain ⟨k1, k2, hs1, hb⟩ := blk2 hb1
    obtain ⟨hx2, hf2⟩ := block_facts k2
    have HO := hide hown
    have HB := hide hb
    clear hb hb1 k1 k2 hown
    generalize hn : l.length = n at *
    have HN := hide hn
    clear hn
    have l2 : w.heap.size + 1 < w1.heap.size := (by omega); have n2 : ¬ w.heap.size + 1 = w1.heap.size := (by omega)
    go_wp2
    refine bodyPost_ret (v := outV (.slice ao n cap) on wait' next' age' err text ask) (by simp [results, Tryz.results133, go_sem, hx2]) rfl ⟨ao, cap, by rw [HN.out], ?_, ?_⟩
    · rw [HN.out]
      refine ownsRow_base (base' := w.heap.size + 1 + 1) ?_ (by omega)
      repeat (with_reducible refine oset ?_ ?_; (focus omega))
      have := unhide HO
      simpa using this
    · repeat (first | with_reducible exact unhide HB | with_reducible exact Below.refl _ _ | with_reducible refine bdrew ?_ | (with_reducible refine brow ?_ ?_; (focus (first | omega | (simp; done) | (simp; omega)))) | (with_reducible refine bset ?_ ?_; (focus (first | omega | (simp; done) | (simp; omega)))) | (with_reducible refine balloc ?_ ?_; (focus (first | omega | (simp; done) | (simp; omega)))) | (with_reducible refine bvia (unhide HB1) ?_ ?_; (focus (first | omega | (simp; done) | (simp; omega)))) | (with_reducible refine bvia (unhide HB2) ?_ ?_; (focus (first | omega | (simp; done) | (simp; omega)))) | (with_reducible refine bvia (unhide HB3) ?_ ?_; (focus (first | omega | (simp; done) | (simp; omega)))) | (with_reducible refine bvia (unhide HB4) ?_ ?_; (focus (first | omega | (simp; done) | (simp; omega)))) | (with_reducible refine bvia (unhide HB5) ?_ ?_; (focus (first | omega | (simp; done) | (simp; omega)))) | (with_reducible refine bvia (unhide HB6) ?_ ?_; (focus (first | omega | (simp; done) | (simp; omega)))))
  · have g2 : ¬ (ph : Int) = 2 := by omega
    by_cases hp1 : ph = 1
    · have HX := hide (h1 hp1)
      clear h0 h1 h2
      subst hp1
      go_enter Tryz.func133, Tryz.ntmps133
      go_wp2_with fail
      refine (unhide HX _ (((unhide HD).alloc _).alloc _)).mono ?_
      rintro e w1 ⟨ao, cap, rfl, hown, hb1⟩
      obtain ⟨k1, k2, hs1, hb⟩ := blk2 hb1
      obtain ⟨hx2, hf2⟩ := block_facts k2
      have HO := hide hown
      have HB := hide hb
      clear hb hb1 k1 k2 hown
      generalize hn : l.length = n at *
      have HN := hide hn
      clear hn
      have l2 : w.heap.size + 1 < w1.heap.size := (by omega); have n2 : ¬ w.heap.size + 1 = w1.heap.size := (by omega)
      go_wp2
      refine bodyPost_ret (v := outV (.slice ao n cap) on wait' next' age' err text ask) (by simp [results, Tryz.results133, go_sem, hx2]) rfl ⟨ao, cap, by rw [HN.out], ?_, ?_⟩
      · rw [HN.out]
        refine ownsRow_base (base' := w.heap.size + 1 + 1) ?_ (by omega)
        repeat (with_reducible refine oset ?_ ?_; (focus omega))
        have := unhide HO
        simpa using this
      · repeat (first | with_reducible exact unhide HB | with_reducible exact Below.refl _ _ | with_reducible refine bdrew ?_ | (with_reducible refine brow ?_ ?_; (focus (first | omega | (simp; done) | (simp; omega)))) | (with_reducible refine bset ?_ ?_; (focus (first | omega | (simp; done) | (simp; omega)))) | (with_reducible refine balloc ?_ ?_; (focus (first | omega | (simp; done) | (simp; omega)))) | (with_reducible refine bvia (unhide HB1) ?_ ?_; (focus (first | omega | (simp; done) | (simp; omega)))) | (with_reducible refine bvia (unhide HB2) ?_ ?_; (focus (first | omega | (simp; done) | (simp; omega)))) | (with_reducible refine bvia (unhide HB3) ?_ ?_; (focus (first | omega | (simp; done) | (simp; omega)))) | (with_reducible refine bvia (unhide HB4) ?_ ?_; (focus (first | omega | (simp; done) | (simp; omega)))) | (with_reducible refine bvia (unhide HB5) ?_ ?_; (focus (first | omega | (simp; done) | (simp; omega)))) | (with_reducible refine bvia (unhide HB6) ?_ ?_; (focus (first | omega | (simp; done) | (simp; omega)))))
    · obtain ⟨rfl, rfl, rfl, rfl, rfl, rfl, rfl⟩ := h0 hp2 hp1
      have g1 : ¬ (ph : Int) = 1 := by omega
      clear h0 h1 h2
      go_enter Tryz.func133, Tryz.ntmps133
      go_wp2_with fail
      refine (devStill_any (((unhide HD).alloc _).alloc _)).mono ?_
      rintro e w1 ⟨rfl, hb1⟩
      obtain ⟨k1, k2, hs1, hb⟩ := blk2 hb1
      obtain ⟨hx2, hf2⟩ := block_facts k2
      have HB := hide hb
      clear hb hb1 k1 k2
      have l2 : w.heap.size + 1 < w1.heap.size := (by omega); have n2 : ¬ w.heap.size + 1 = w1.heap.size := (by omega)
      go_wp2
      refine bodyPost_ret (v := outV (.slice none 0 0) on wait' next' age' 0 ⟨#[]⟩ (-1)) (by simp [results, Tryz.results133, go_sem, hx2]) rfl (raw_none rfl ?_)
      repeat (first | with_reducible exact unhide HB | with_reducible exact Below.refl _ _ | with_reducible refine bdrew ?_ | (with_reducible refine brow ?_ ?_; (focus (first | omega | (simp; done) | (simp; omega)))) | (with_reducible refine bset ?_ ?_; (focus (first | omega | (simp; done) | (simp; omega)))) | (with_reducible refine balloc ?_ ?_; (focus (first | omega | (simp; done) | (simp; omega)))) | (with_reducible refine bvia (unhide HB1) ?_ ?_; (focus (first | omega | (simp; done) | (simp; omega)))) | (with_reducible refine bvia (unhide HB2) ?_ ?_; (focus (first | omega | (simp; done) | (simp; omega)))) | (with_reducible refine bvia (unhide HB3) ?_ ?_; (focus (first | omega | (simp; done) | (simp; omega)))) | (with_reducible refine bvia (unhide HB4) ?_ ?_; (focus (first | omega | (simp; done) | (simp; omega)))) | (with_reducible refine bvia (unhide HB5) ?_ ?_; (focus (first | omega | (simp; done) | (simp; omega)))) | (with_reducible refine bvia (unhide HB6) ?_ ?_; (focus (first | omega | (simp; done) | (simp; omega)))))
end
end Go.Proofs.YtjfmiomopfjecabGreat

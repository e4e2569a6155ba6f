/- Texts laid together: DevRaw4, DevInst. -/
import Derived.Test.YtjfmiomopfjecabGreatVe
import Derived.Deep.RegionLaw
import Derived.Deep.DrawnRows
import Derived.Test.YtjfmiomopfjecabGreatVa
import Derived.Test.YtjfmiomopfjecabGreatVb
import Derived.Test.YtjfmiomopfjecabGreatVc
import Derived.Test.YtjfmiomopfjecabGreatVd
/- A manifest that is offered is taken. -/
namespace Go.Proofs.YtjfmiomopfjecabGreat
open Go.RowKit Go.Lib

theorem row_of {W : World} {base : Nat} {v : Value} {l : List GW} (h : W.ownsRow base 136 2 v l.length (gwCells l)) (hl : 0 < l.length) : ∃ g cap, v = .slice (some ⟨g, 0, none⟩) l.length cap ∧ base ≤ g ∧ ∀ j u, (gwCells l)[j]? = some u → W.cell? ⟨g, j, none⟩ = some u := by
  obtain ⟨ao, cap, rfl, -, -, hc⟩ := (holdsRow_own h).shape
  obtain ⟨g, rfl, -, hcells⟩ := hc hl
  exact ⟨g, cap, rfl, (h.lt g rfl).1, hcells⟩
section
variable {pg num kp ph tr s0 v0 s1 v1 th : Nat} {w : World} {b : Nat} {t : TypeId} {key : ByteArray} {F : Nat → Nat} {on : Bool} {wait next age : Nat}
set_option maxRecDepth 10000 in
set_option maxHeartbeats 2000000 in
theorem rawOffer_yes (hd : DevAt w b t key F on wait next age) (hr : RecOk pg num kp ph tr s0 v0 s1 v1 th) (hp : ph ≠ 2) (hp1 : ph ≠ 1) (s : ByteArray) (hk : key.size ≤ 16) (hs : s.size ≤ maxLen) (h : M.isMan key s = true)
    (hv0 : (if kp = 0 then v0 else v1) < M.numAt (M.bz s) 0) (hv2 : M.numAt (M.bz s) 2 = (if kp = 0 then v0 else v1)) :
    Calls Tryz.prog 135 #[.pointer (some ⟨b, 0, none⟩), recV pg num kp ph tr s0 v0 s1 v1 th, .string s] w fun e w' => OutRaw w on 0 1 age 0 ⟨#[]⟩ (-1) (spreadG 2 3 s ++ [(1 - pg, recP ((num + 1) % 256) kp 1 0 s0 v0 s1 v1 0)]) e w' := by
  have HD := hide hd
  have hlt := hd.lt
  have cK := hd.keyC
  have hne : ¬ b = w.heap.size := by omega
  have hne1 : ¬ b = w.heap.size + 1 := by omega
  have hp2 : ¬ (ph : Int) = 2 := by omega
  have hp3 : ¬ (ph : Int) = 1 := by omega
  have HM := hide (fun W => manParse_yes key s W hk hs h)
  have HS := hide (fun W => recSlot_any pg num kp ph tr s0 v0 s1 v1 th kp W)
  have HFT := hide (fun W => recFetching_any pg num kp ph tr s0 v0 s1 v1 th W hr.1 hr.2.1)
  have HW := hide (fun W => written_ok (next_ok (p := 1) (q := 0) (k := kp) (t := 0) hr (by omega) (by omega) hr.2.2.1 (by omega)) W)
  have HSP := hide (fun W => spread_any 2 3 s W hs (by omega) (by omega))
  generalize (if kp = 0 then v0 else v1) = kv at *
  generalize (if kp = 0 then s0 else s1) = ks at *
  have HV2 := hide hv2
  clear hd h hv2 hr
  go_enter Tryz.func135, Tryz.ntmps135
  go_wp2_with fail
  refine (unhide HM _).mono ?_
  rintro e w1 ⟨ao, n, cap, rfl, hb1⟩
  unfold manOf
  generalize M.numAt (M.bz s) 0 = a0 at *
  generalize M.numAt (M.bz s) 2 = a2 at *
  generalize M.numAt (M.bz s) 6 = a6 at *
  generalize M.bz s 4 = a4 at *
  generalize M.bz s 5 = a5 at *
  generalize M.exB (M.bz s) = x1 at *
  generalize M.exQ (M.bz s) = x2 at *
  generalize M.exA (M.bz s) = x3 at *
  obtain ⟨k1, k2, hs1, hb⟩ := blk2 hb1
  have HD1 := hide ((((unhide HD).alloc _).alloc _).kept hb1)
  obtain ⟨hx1, hf1⟩ := block_facts k1
  have K1 := hide k1
  have K2 := hide k2
  have HB1 := hide hb
  clear hb hb1 k1 k2
  have l1 : w.heap.size < w1.heap.size := (by omega); have n1 : ¬ w.heap.size = w1.heap.size := (by omega)
  have l2 : w.heap.size + 1 < w1.heap.size := (by omega); have n2 : ¬ w.heap.size + 1 = w1.heap.size := (by omega)
  go_wp2_with fail
  refine (unhide HS _).mono ?_
  rintro e w2 ⟨rfl, hb2⟩
  clear hx1 hf1
  have HD2 := hide (((unhide HD1).alloc _).kept hb2)
  have k1 := kept_block hb2 (alloc_block (unhide K1) _)
  have k2 := kept_block hb2 (alloc_block (unhide K2) _)
  obtain ⟨k3, hs2, hb⟩ := blk1 hb2
  obtain ⟨hx1, hf1⟩ := block_facts k1
  obtain ⟨hx3, hf3⟩ := block_facts k3
  have K1' := hide k1
  have K2' := hide k2
  have HB2 := hide hb
  clear hb hb2 k1 k2 k3 K1 K2 HS HD1
  have l3 : w1.heap.size < w2.heap.size := (by omega); have n3 : ¬ w1.heap.size = w2.heap.size := (by omega)
  have l4 : w.heap.size < w2.heap.size := (by omega); have n4 : ¬ w.heap.size = w2.heap.size := (by omega)
  have g1 : ¬ (a0 : Int) ≤ (kv : Int) := by omega
  have g2 : ((a2 : Int) != (kv : Int)) = false := by have := HV2.out; simp; omega
  go_wp2_with fail
  refine (unhide HSP _).mono ?_
  rintro e w3 ⟨v, rfl, hown, hb3⟩
  have HD3 := hide (((unhide HD2).alloc _).kept hb3)
  have k1 := kept_block hb3 (alloc_block (unhide K1') _)
  have k2 := kept_block hb3 (alloc_block (unhide K2') _)
  obtain ⟨g, c3, rfl, hg3, hcells⟩ := row_of (l := spreadG 2 3 s) hown (by rw [spreadG_length]; omega)
  have HC3 := hide hcells
  have HB3 := hide hb3
  have hs3 := hb3.size
  simp at hs3 hg3
  clear hx1 hf1 hx3 hf3 hcells hb3 hown
  have K1 := hide k1
  have K2 := hide k2
  clear k1 k2 K1' K2' HD2
  have HL3 := hide (spreadG_length 2 3 s)
  go_wp2_with (at_builtin; (refine append_writes _ rfl (.tmp 57) (.tmp 59) rfl w3.heap.size (.slice none 0 0) [] (spreadG 2 3 s) g c3 rfl rfl (World.ownsRow_nil _ _ _ _) (unhide HC3) (by rw [HL3.out]; show 0 + 3 ≤ _; omega) (Nat.le_refl _) ?_); intro v4 w4 hown4 hbel4 hsz4; obtain ⟨ao4, cap4, hv4, -⟩ := (holdsRow_own hown4).shape; subst hv4; have hB4 := hbel4 _ (Below.refl _ _); obtain ⟨hx1, hf1⟩ := block_facts (kept_block hB4 (unhide K1)))
  clear hx1 hf1
  refine (unhide HFT _).mono ?_
  rintro e w5 ⟨rfl, hb5⟩
  have K2' := hide (kept_block hb5 (kept_block hB4 (unhide K2)))
  have HD5 := hide (((unhide HD3).kept hB4).kept hb5)
  have HO5 : Hid (w5.ownsRow w3.heap.size 136 2 (.slice ao4 (spreadG 2 3 s).length cap4) (spreadG 2 3 s).length (gwCells (spreadG 2 3 s))) := ownsRow_below hown4 hb5
  have hs5 := hb5.size
  have HB5 : Hid (Below w.heap.size w w5) := by
    refine bvia hb5 (by omega) ?_
    refine hB4.mono (by omega) |> fun h => Below.trans ?_ h
    repeat (first | with_reducible exact unhide HB | with_reducible exact Below.refl _ _ | with_reducible refine bdrew ?_ | (with_reducible refine brow ?_ ?_; (focus (first | omega | (simp; done) | (simp; omega)))) | (with_reducible refine bset ?_ ?_; (focus (first | omega | (simp; done) | (simp; omega)))) | (with_reducible refine balloc ?_ ?_; (focus (first | omega | (simp; done) | (simp; omega)))) | (with_reducible refine bvia (unhide HB1) ?_ ?_; (focus (first | omega | (simp; done) | (simp; omega)))) | (with_reducible refine bvia (unhide HB2) ?_ ?_; (focus (first | omega | (simp; done) | (simp; omega)))) | (with_reducible refine bvia (unhide HB3) ?_ ?_; (focus (first | omega | (simp; done) | (simp; omega)))) | (with_reducible refine bvia (unhide HB4) ?_ ?_; (focus (first | omega | (simp; done) | (simp; omega)))) | (with_reducible refine bvia (unhide HB5) ?_ ?_; (focus (first | omega | (simp; done) | (simp; omega)))) | (with_reducible refine bvia (unhide HB6) ?_ ?_; (focus (first | omega | (simp; done) | (simp; omega)))))
  clear hb5 hown4 hbel4 hB4 K1 K2 HD3 HB1 HB2 HB3 HC3
  generalize hN : (num + 1) % 256 = N at *; generalize hP : 1 - pg = P at *; have HN := hide hN; have HP := hide hP; clear hN hP
  go_wp2_with fail
  refine (unhide HW _).mono ?_
  rintro e w6 ⟨rfl, hb6⟩
  have K2 := hide (kept_block hb6 (unhide K2'))
  have HD6 := hide ((unhide HD5).kept hb6)
  have HO6 := hide (ownsRow_below (unhide HO5) hb6)
  have hs6 := hb6.size
  have HB6 : Hid (Below w.heap.size w w6) := bvia hb6 (by omega) (unhide HB5)
  clear hb6 HB5 HO5 HD5 K2'
  generalize hT : recP N kp 1 0 s0 v0 s1 v1 0 = T at *
  have HT := hide hT
  clear hT
  go_wp2_with (at_builtin; (refine append_write _ rfl (.tmp 61) (.tmp 65) rfl w3.heap.size (.slice ao4 (spreadG 2 3 s).length cap4) (spreadG 2 3 s) _ (P, T) rfl rfl rfl (unhide HO6) (by rw [HL3.out]; omega) (by omega) ?_); intro v7 w7 hown7 hbel7 hsz7; obtain ⟨ao7, cap7, hv7, -⟩ := (holdsRow_own hown7).shape; subst hv7)
  have hB7 := hbel7 w6 (Below.refl _ _)
  have e7 : w7.heap[w.heap.size + 1]? = some (.cells (outC (.slice none 0 0) false 0 0 0 0 ⟨#[]⟩ 0) 163 (0, 0)) := (hB7.block _ (by omega)).trans (unhide K2)
  have HD7 : Hid (DevAt w7 b t key F on wait next age) := (hB7.block b (by omega)).trans (unhide HD6)
  have HO7 := hide hown7
  have HB7 : Hid (Below w.heap.size w w7) := (unhide HB6).trans (hB7.mono (by omega))
  have K7 := hide e7
  clear hown7 hbel7 hB7 e7 HD6 HB6 HO6 K2
  refine (devEager_any (unhide HD7) ao7 _ cap7).mono ?_
  rintro e w8 ⟨rfl, hb8⟩
  obtain ⟨hx2, hf2⟩ := block_facts (kept_block hb8 (unhide K7))
  have HO8 := hide (ownsRow_below (unhide HO7) hb8)
  have hs8 := hb8.size
  have HB : Hid (Below w.heap.size w w8) := bvia hb8 (by omega) (unhide HB7)
  clear hb8 HB7 HO7
  have l8 : w.heap.size + 1 < w8.heap.size := (by omega); have n8 : ¬ w.heap.size + 1 = w8.heap.size := (by omega)
  have HN8 : Hid ((spreadG 2 3 s ++ [(P, T)]).length = (spreadG 2 3 s).length + 1) := by show _ = _; rw [List.length_append]; rfl
  go_wp2
  refine bodyPost_ret (v := outV (.slice ao7 ((spreadG 2 3 s).length + 1) cap7) on 0 1 age 0 ⟨#[]⟩ (-1)) (by simp [results, Tryz.results135, go_sem, hx2]) rfl ?_
  rw [HN.out, HP.out, HT.out]
  refine ⟨ao7, cap7, by rw [HN8.out]; rfl, ?_, ?_⟩
  · refine ownsRow_base (base' := w3.heap.size) ?_ (by omega)
    iterate 8 refine ownsRow_setCell_below ?_ (by show w.heap.size + 1 < w3.heap.size; omega) _
    exact unhide HO8
  · repeat (first | with_reducible exact unhide HB | with_reducible exact Below.refl _ _ | with_reducible refine bdrew ?_ | (with_reducible refine brow ?_ ?_; (focus (first | omega | (simp; done) | (simp; omega)))) | (with_reducible refine bset ?_ ?_; (focus (first | omega | (simp; done) | (simp; omega)))) | (with_reducible refine balloc ?_ ?_; (focus (first | omega | (simp; done) | (simp; omega)))) | (with_reducible refine bvia (unhide HB1) ?_ ?_; (focus (first | omega | (simp; done) | (simp; omega)))) | (with_reducible refine bvia (unhide HB2) ?_ ?_; (focus (first | omega | (simp; done) | (simp; omega)))) | (with_reducible refine bvia (unhide HB3) ?_ ?_; (focus (first | omega | (simp; done) | (simp; omega)))) | (with_reducible refine bvia (unhide HB4) ?_ ?_; (focus (first | omega | (simp; done) | (simp; omega)))) | (with_reducible refine bvia (unhide HB5) ?_ ?_; (focus (first | omega | (simp; done) | (simp; omega)))) | (with_reducible refine bvia (unhide HB6) ?_ ?_; (focus (first | omega | (simp; done) | (simp; omega)))))
set_option maxRecDepth 10000 in
set_option maxHeartbeats 2000000 in
theorem rawOffer_more (hd : DevAt w b t key F on wait next age) (hr : RecOk pg num kp 1 tr s0 v0 s1 v1 th) (s : ByteArray) (hk : key.size ≤ 16) (hs : s.size ≤ maxLen) (h : M.isMan key s = true)
    (hv0 : (if kp = 0 then v0 else v1) < M.numAt (M.bz s) 0) (hv2 : M.numAt (M.bz s) 2 = (if kp = 0 then v0 else v1)) :
    Calls Tryz.prog 135 #[.pointer (some ⟨b, 0, none⟩), recV pg num kp 1 tr s0 v0 s1 v1 th, .string s] w fun e w' => OutRaw w on 0 1 age 0 ⟨#[]⟩ (-1) ([(1 - pg, recP ((num + 1) % 256) kp 0 0 s0 v0 s1 v1 0)] ++ spreadG 2 3 s ++ [(1 - (1 - pg), recP (((num + 1) % 256 + 1) % 256) kp 1 0 s0 v0 s1 v1 0)]) e w' := by
  have HD := hide hd
  have hlt := hd.lt
  have cK := hd.keyC
  have hne : ¬ b = w.heap.size := by omega
  have hne1 : ¬ b = w.heap.size + 1 := by omega
  have HM := hide (fun W => manParse_yes key s W hk hs h)
  have HS := hide (fun W => recSlot_any pg num kp 1 tr s0 v0 s1 v1 th kp W)
  have hok := next_ok (p := 0) (q := 0) (k := kp) (t := 0) hr (by omega) (by omega) hr.2.2.1 (by omega)
  have HST := hide (fun W => opaq (recSteady_any pg num kp 1 tr s0 v0 s1 v1 th W hr.1 hr.2.1))
  have HW0 := hide (fun W => written_ok hok W)
  have HFT := hide (fun W => recFetching_any (1 - pg) ((num + 1) % 256) kp 0 0 s0 v0 s1 v1 0 W hok.1 hok.2.1)
  have HW := hide (fun W => written_ok (next_ok (p := 1) (q := 0) (k := kp) (t := 0) hok (by omega) (by omega) hr.2.2.1 (by omega)) W)
  clear hok
  have HSP := hide (fun W => spread_any 2 3 s W hs (by omega) (by omega))
  generalize (if kp = 0 then v0 else v1) = kv at *
  generalize (if kp = 0 then s0 else s1) = ks at *
  have HV2 := hide hv2
  clear hd h hv2 hr
  go_enter Tryz.func135, Tryz.ntmps135
  go_wp2_with fail
  refine (unhide HM _).mono ?_
  rintro e w1 ⟨ao, n, cap, rfl, hb1⟩
  unfold manOf
  generalize M.numAt (M.bz s) 0 = a0 at *
  generalize M.numAt (M.bz s) 2 = a2 at *
  generalize M.numAt (M.bz s) 6 = a6 at *
  generalize M.bz s 4 = a4 at *
  generalize M.bz s 5 = a5 at *
  generalize M.exB (M.bz s) = x1 at *
  generalize M.exQ (M.bz s) = x2 at *
  generalize M.exA (M.bz s) = x3 at *
  obtain ⟨k1, k2, hs1, hb⟩ := blk2 hb1
  have HD1 := hide ((((unhide HD).alloc _).alloc _).kept hb1)
  obtain ⟨hx1, hf1⟩ := block_facts k1
  have K1 := hide k1
  have K2 := hide k2
  have HB1 := hide hb
  clear hb hb1 k1 k2
  have l1 : w.heap.size < w1.heap.size := (by omega); have n1 : ¬ w.heap.size = w1.heap.size := (by omega)
  have l2 : w.heap.size + 1 < w1.heap.size := (by omega); have n2 : ¬ w.heap.size + 1 = w1.heap.size := (by omega)
  go_wp2_with fail
  refine (unhide HS _).mono ?_
  rintro e w2 ⟨rfl, hb2⟩
  clear hx1 hf1
  have HD2 := hide (((unhide HD1).alloc _).kept hb2)
  have k1 := kept_block hb2 (alloc_block (unhide K1) _)
  have k2 := kept_block hb2 (alloc_block (unhide K2) _)
  obtain ⟨k3, hs2, hb⟩ := blk1 hb2
  obtain ⟨hx1, hf1⟩ := block_facts k1
  obtain ⟨hx3, hf3⟩ := block_facts k3
  have K1' := hide k1
  have K2' := hide k2
  have HB2 := hide hb
  clear hb hb2 k1 k2 k3 K1 K2 HS HD1
  have l3 : w1.heap.size < w2.heap.size := (by omega); have n3 : ¬ w1.heap.size = w2.heap.size := (by omega)
  have l4 : w.heap.size < w2.heap.size := (by omega); have n4 : ¬ w.heap.size = w2.heap.size := (by omega)
  have g1 : ¬ (a0 : Int) ≤ (kv : Int) := by omega
  have g2 : ((a2 : Int) != (kv : Int)) = false := by have := HV2.out; simp; omega
  go_wp2_with fail
  refine (unhide HST _).mono ?_
  rintro e wa ⟨C, rfl, HC, hba⟩
  have HDa := hide (((unhide HD2).alloc _).kept hba)
  have ka1 := kept_block hba (alloc_block (unhide K1') _)
  have ka2 := kept_block hba (alloc_block (unhide K2') _)
  have HBa := hide hba
  have hsa := hba.size
  simp at hsa
  clear hx1 hf1 hx3 hf3 hba
  obtain ⟨hx1, hf1⟩ := block_facts ka1
  have Ka1 := hide ka1
  have Ka2 := hide ka2
  clear ka1 ka2 K1' K2' HD2 HST
  generalize hN : (num + 1) % 256 = N at *; generalize hP : 1 - pg = P at *; have HN := hide hN; have HP := hide hP; clear hN hP
  have HDa' : Hid (wa.heap[b]? = some (.cells (devCells key F on wait next age) t (0, 0))) := unhide HDa
  have hC10 : C.size = 10 := by rw [HC.out]; rfl
  have hCn : ¬ C = #[] := fun e => by rw [e] at hC10; exact absurd hC10 (by decide)
  have hst := store_row (c := C) (unhide Ka1) (ty := 133) (by rw [rec_info, hC10]) (by rw [hC10]; rfl) (by rw [HC.out]; simp [Value.oneCell'])
  have HR1 := hide (row_in (C := C) (unhide Ka1))
  have hxr : ∀ o, (wa.setRow w.heap.size C).cell? ⟨w.heap.size, o, none⟩ = (#[.int .i64 P, .int .i64 N, .int .i64 kp, .int .i64 0, .int .i64 0, .int .i64 s0, .int .i64 v0, .int .i64 s1, .int .i64 v1, .int .i64 0] : Array Value)[o]? := fun o => by rw [(block_facts (unhide HR1)).1 o, HC.out]
  clear hx1 hf1
  go_wp2_with fail
  refine (unhide HW0 _).mono ?_
  rintro e wb ⟨rfl, hbb⟩
  have kb1 := kept_block hbb (unhide HR1)
  have kb2 : wb.heap[w.heap.size + 1]? = some (.cells (outC (.slice none 0 0) false 0 0 0 0 ⟨#[]⟩ 0) 163 (0, 0)) := kept_block hbb (row_else (by omega) (unhide Ka2))
  have kbd : wb.heap[b]? = some (.cells (devCells key F on wait next age) t (0, 0)) := kept_block hbb (row_else (by omega) (unhide HDa'))
  have HB3 := HBa
  have hsb := hbb.size
  rw [row_size] at hsb
  have HB0 : Hid (Below w.heap.size w wb) := by
    show Below _ _ _
    refine bvia hbb (by rw [row_size]; omega) ?_
    repeat (first | with_reducible exact unhide HB | with_reducible exact Below.refl _ _ | with_reducible refine bdrew ?_ | (with_reducible refine brow ?_ ?_; (focus (first | omega | (simp; done) | (simp; omega)))) | (with_reducible refine bset ?_ ?_; (focus (first | omega | (simp; done) | (simp; omega)))) | (with_reducible refine balloc ?_ ?_; (focus (first | omega | (simp; done) | (simp; omega)))) | (with_reducible refine bvia (unhide HB1) ?_ ?_; (focus (first | omega | (simp; done) | (simp; omega)))) | (with_reducible refine bvia (unhide HB2) ?_ ?_; (focus (first | omega | (simp; done) | (simp; omega)))) | (with_reducible refine bvia (unhide HB3) ?_ ?_; (focus (first | omega | (simp; done) | (simp; omega)))) | (with_reducible refine bvia (unhide HB4) ?_ ?_; (focus (first | omega | (simp; done) | (simp; omega)))) | (with_reducible refine bvia (unhide HB5) ?_ ?_; (focus (first | omega | (simp; done) | (simp; omega)))) | (with_reducible refine bvia (unhide HB6) ?_ ?_; (focus (first | omega | (simp; done) | (simp; omega)))))
  clear hbb HB1 HB2 HB3 HBa HDa HDa' Ka1 Ka2 HW0
  have KB1 := hide kb1
  have KB2 := hide kb2
  have KBD := hide kbd
  clear kb1 kb2 kbd
  generalize hT0 : recP N kp 0 0 s0 v0 s1 v1 0 = T0 at *
  have HT0 := hide hT0
  clear hT0
  go_wp2_with (at_builtin; (refine append_write _ rfl (.tmp 52) (.tmp 55) rfl wb.heap.size (.slice none 0 0) [] _ (P, T0) rfl rfl rfl (World.ownsRow_nil _ _ _ _) (by show 0 + 1 ≤ _; omega) (Nat.le_refl _) ?_); intro vc wc hownc hbelc hszc; obtain ⟨aoc, capc, hvc, -⟩ := (holdsRow_own hownc).shape; subst hvc; have hBc := hbelc _ (Below.refl _ _))
  have KC1 := hide ((hBc.block w.heap.size (by omega)).trans (unhide KB1))
  have KC2 := hide ((hBc.block (w.heap.size + 1) (by omega)).trans (unhide KB2))
  have KCD := hide ((hBc.block b (by omega)).trans (unhide KBD))
  have HOc : Hid (wc.ownsRow wb.heap.size 136 2 (.slice aoc 1 capc) [(P, T0)].length (gwCells [(P, T0)])) := hownc
  have HBc : Hid (Below w.heap.size w wc) := (unhide HB0).trans (hBc.mono (by omega))
  clear hownc hbelc hBc KB1 KB2 KBD HB0 hxr
  refine (unhide HSP _).mono ?_
  rintro e w3 ⟨v, rfl, hown, hb3⟩
  have k1 := kept_block hb3 (unhide KC1)
  have k2 := kept_block hb3 (unhide KC2)
  have kd := kept_block hb3 (unhide KCD)
  obtain ⟨g, c3, rfl, hg3, hcells⟩ := row_of (l := spreadG 2 3 s) hown (by rw [spreadG_length]; omega)
  have HC3 := hide hcells
  have HO3 := hide (ownsRow_below (unhide HOc) hb3)
  have hs3 := hb3.size
  have HB3 : Hid (Below w.heap.size w w3) := bvia hb3 (by omega) (unhide HBc)
  clear hcells hb3 hown KC1 KC2 KCD HOc HBc
  have K1 := hide k1
  have K2 := hide k2
  have KD := hide kd
  clear k1 k2 kd
  have HL3 := hide (spreadG_length 2 3 s)
  go_wp2_with (at_builtin; (refine append_writes _ rfl (.tmp 57) (.tmp 59) rfl wb.heap.size (.slice aoc 1 capc) [(P, T0)] (spreadG 2 3 s) g c3 rfl rfl (unhide HO3) (unhide HC3) (by rw [HL3.out]; show 1 + 3 ≤ _; omega) (by omega) ?_); intro v4 w4 hown4 hbel4 hsz4; obtain ⟨ao4, cap4, hv4, -⟩ := (holdsRow_own hown4).shape; subst hv4; have hB4 := hbel4 _ (Below.refl _ _); have hx1 : ∀ o, w4.cell? ⟨w.heap.size, o, none⟩ = (#[.int .i64 P, .int .i64 N, .int .i64 kp, .int .i64 0, .int .i64 0, .int .i64 s0, .int .i64 v0, .int .i64 s1, .int .i64 v1, .int .i64 0] : Array Value)[o]? := (fun o => by rw [(block_facts ((hB4.block w.heap.size (by omega)).trans (unhide K1))).1 o, HC.out]))
  clear hx1
  refine (unhide HFT _).mono ?_
  rintro e w5 ⟨rfl, hb5⟩
  have K2' := hide (kept_block hb5 ((hB4.block _ (by omega)).trans (unhide K2)))
  have KD5 := hide (kept_block hb5 ((hB4.block b (by omega)).trans (unhide KD)))
  have HO5 := hide (ownsRow_below hown4 hb5)
  have hs5 := hb5.size
  have HB5 : Hid (Below w.heap.size w w5) := bvia hb5 (by omega) ((unhide HB3).trans (hB4.mono (by omega)))
  clear hb5 hown4 hbel4 hB4 K1 K2 KD HB3 HC3 HO3
  generalize hN2 : (N + 1) % 256 = N2 at *
  generalize hP2 : 1 - P = P2 at *
  have HN2 := hide hN2
  have HP2 := hide hP2
  clear hN2 hP2
  go_wp2_with fail
  refine (unhide HW _).mono ?_
  rintro e w6 ⟨rfl, hb6⟩
  have K2 := hide (kept_block hb6 (unhide K2'))
  have KD6 := hide (kept_block hb6 (unhide KD5))
  have HO6 := hide (ownsRow_below (unhide HO5) hb6)
  have hs6 := hb6.size
  have HB6 : Hid (Below w.heap.size w w6) := bvia hb6 (by omega) (unhide HB5)
  clear hb6 HB5 HO5 KD5 K2'
  generalize hT : recP N2 kp 1 0 s0 v0 s1 v1 0 = T at *
  have HT := hide hT
  clear hT
  go_wp2_with (at_builtin; (refine append_write _ rfl (.tmp 61) (.tmp 65) rfl wb.heap.size (.slice ao4 ((spreadG 2 3 s).length + 1) cap4) ([(P, T0)] ++ spreadG 2 3 s) _ (P2, T) rfl rfl rfl (unhide HO6) (by show (spreadG 2 3 s).length + 1 + 1 ≤ _; rw [HL3.out]; omega) (by omega) ?_); intro v7 w7 hown7 hbel7 hsz7; obtain ⟨ao7, cap7, hv7, -⟩ := (holdsRow_own hown7).shape; subst hv7)
  have hB7 := hbel7 w6 (Below.refl _ _)
  have e7 := (hB7.block _ (by omega)).trans (unhide K2)
  have HD7 : Hid (DevAt w7 b t key F on wait next age) := (hB7.block b (by omega)).trans (unhide KD6)
  have HO7 := hide hown7
  have HB7 : Hid (Below w.heap.size w w7) := (unhide HB6).trans (hB7.mono (by omega))
  have K7 := hide e7
  clear hown7 hbel7 hB7 e7 KD6 HB6 HO6 K2
  refine (devEager_any (unhide HD7) ao7 _ cap7).mono ?_
  rintro e w8 ⟨rfl, hb8⟩
  obtain ⟨hx2, hf2⟩ := block_facts (kept_block hb8 (unhide K7))
  have HO8 := hide (ownsRow_below (unhide HO7) hb8)
  have hs8 := hb8.size
  have HB : Hid (Below w.heap.size w w8) := bvia hb8 (by omega) (unhide HB7)
  clear hb8 HB7 HO7
  have l8 : w.heap.size + 1 < w8.heap.size := (by omega); have n8 : ¬ w.heap.size + 1 = w8.heap.size := (by omega)
  go_wp2
  refine bodyPost_ret (v := outV (.slice ao7 ((spreadG 2 3 s).length + 1 + 1) cap7) on 0 1 age 0 ⟨#[]⟩ (-1)) (by simp [results, Tryz.results135, go_sem, hx2]) rfl ?_
  rw [HN.out, HP.out, HN2.out, HP2.out, HT.out, HT0.out]
  refine ⟨ao7, cap7, by rw [List.length_cons, List.length_append]; rfl, ?_, ?_⟩
  · refine ownsRow_base (base' := wb.heap.size) ?_ (by omega)
    iterate 8 refine ownsRow_setCell_below ?_ (by show w.heap.size + 1 < wb.heap.size; omega) _
    exact unhide HO8
  · repeat (first | with_reducible exact unhide HB | with_reducible exact Below.refl _ _ | with_reducible refine bdrew ?_ | (with_reducible refine brow ?_ ?_; (focus (first | omega | (simp; done) | (simp; omega)))) | (with_reducible refine bset ?_ ?_; (focus (first | omega | (simp; done) | (simp; omega)))) | (with_reducible refine balloc ?_ ?_; (focus (first | omega | (simp; done) | (simp; omega)))) | (with_reducible refine bvia (unhide HB1) ?_ ?_; (focus (first | omega | (simp; done) | (simp; omega)))) | (with_reducible refine bvia (unhide HB2) ?_ ?_; (focus (first | omega | (simp; done) | (simp; omega)))) | (with_reducible refine bvia (unhide HB3) ?_ ?_; (focus (first | omega | (simp; done) | (simp; omega)))) | (with_reducible refine bvia (unhide HB4) ?_ ?_; (focus (first | omega | (simp; done) | (simp; omega)))) | (with_reducible refine bvia (unhide HB5) ?_ ?_; (focus (first | omega | (simp; done) | (simp; omega)))) | (with_reducible refine bvia (unhide HB6) ?_ ?_; (focus (first | omega | (simp; done) | (simp; omega)))))
end
end Go.Proofs.YtjfmiomopfjecabGreat

/- The new image is installed, or given up. -/
namespace Go.Proofs.YtjfmiomopfjecabGreat
open Go.RowKit Go.Lib
attribute [local go_sem ↓] Go.wp_at_zero Go.wp_at_succ

/-- what holds behind a piece of code, said once -/
theorem cut_code {c : Code} {a : Act} {W : World} {Q : Exit → Act → World → Prop} (Φ : Act → World → Prop) (h1 : c.wp Tryz.prog (fun e a w => e = .normal ∧ Φ a w) a W) (h2 : ∀ a w, Φ a w → Q .normal a w) : c.wp Tryz.prog Q a W :=
  Code.wp_mono (fun _ a w ⟨he, h⟩ => he ▸ h2 a w h) h1
theorem oset {W : World} {base g o : Nat} {u : Value} {e : TypeId} {size : Nat} {v : Value} {n : Nat} {xs : List Value} (hg : g < base) (h : W.ownsRow base e size v n xs) : (W.setCell ⟨g, o, none⟩ u).ownsRow base e size v n xs := ownsRow_setCell_below h (a := ⟨g, o, none⟩) hg u
/-- one page more, as a step of a region that draws its order -/
theorem step_write {ops : Array Oper} {o : Oper} {a : Act} {K : Act → World → Prop} {Q : Exit → Act → World → Prop} {E : Prop} {W : World} (hgd : o.guard = none) (s x : Operand)
    (ho : o.op = .call { callee := .builtin .append, args := #[s, x], argTypes := #[127, 127] })
    (base : Nat) (v : Value) (l : List GW) (y : GW) (g : Nat) (hs : a.eval s = v) (hx : a.eval x = .slice (some ⟨g, 0, none⟩) 1 1) (hc : W.cell? ⟨g, 0, none⟩ = some (.int .i64 (y.1 : Int))) (hc1 : W.cell? ⟨g, 1, none⟩ = some (.string y.2))
    (hown : W.ownsRow base 136 2 v l.length (gwCells l)) (hn : l.length + 1 ≤ 1000000) (hbase : base ≤ W.heap.size)
    (h : ∀ v' w', w'.ownsRow base 136 2 v' (l ++ [y]).length (gwCells (l ++ [y])) → (∀ w0, Below base w0 W → Below base w0 w') → W.heap.size ≤ w'.heap.size → K (a.put o.dst v') w') :
    if Region.wanted o (yielded ops a.tmps) = true then Oper.wp Tryz.prog o a W K Q else E := by
  have hw : Region.wanted o (yielded ops a.tmps) = true := by simp [Region.wanted, hgd]
  rw [if_pos hw]
  obtain ⟨i0, hi, hz0, hz1, hz2⟩ := info_parts infoW
  refine wp_append_own _ s x 127 ho base 136 i0 _ 2 24 Tryz.underlying127 hi hz0 hz1 hz2 rfl (by decide) v l.length (gwCells l) hs hown ⟨g, 0, none⟩ 1 1 [.int .i64 (y.1 : Int), .string y.2] hx rfl ?_ ?_ (by unfold maxLen; omega) (by omega) hbase ?_
  · intro j u hj
    match j, hj with
    | 0, hj => simp at hj; subst hj; rw [add_at]; exact hc
    | 1, hj => simp at hj; subst hj; rw [add_at]; exact hc1
  · intro u hu
    simp only [List.mem_cons, List.not_mem_nil, or_false] at hu
    rcases hu with rfl | rfl <;> rfl
  · intro v' w' hown' hgrow _
    refine h v' w' ?_ (fun w0 hb0 => ?_) hgrow.size
    · rw [List.length_append, gwCells_snoc]
      exact hown'
    · exact hb0.grown hgrow hbase (fun k hk => (hown.lt k hk).1)
section
variable {pg num kp ph tr s0 v0 s1 v1 th : Nat} {w : World} {b : Nat} {t : TypeId} {key : ByteArray} {F : Nat → Nat} {on : Bool} {wait next age : Nat}
set_option maxRecDepth 10000 in
set_option maxHeartbeats 1000000 in
theorem rawInstall_no (hd : DevAt w b t key F on wait next age) (hr : RecOk pg num kp ph tr s0 v0 s1 v1 th) (m : Array Value) (hm : ∃ a0 a2 a4 a5 a6 : Int, ∃ ao n cap x1 x2 x3, m = manC a0 a2 a4 a5 a6 (.slice ao n cap) x1 x2 x3) (en : Int) (he : en ≠ 0)
    (hbt : ∀ (W : World) (_ : DevAt W b t key F on wait next age), Calls Tryz.prog 195 #[.pointer (some ⟨b, 0, none⟩), recV pg num kp ph tr s0 v0 s1 v1 th, .agg m] W fun e w' => e = .returned (.tuple #[.string ⟨#[]⟩, .int .i64 en]) ∧ Below W.heap.size W w') :
    Calls Tryz.prog 185 #[.pointer (some ⟨b, 0, none⟩), recV pg num kp ph tr s0 v0 s1 v1 th, .agg m] w fun e w' => OutRaw w on wait next age en ⟨#[]⟩ (-1) [(1 - pg, recP ((num + 1) % 256) kp 0 0 s0 v0 s1 v1 0)] e w' := by
  obtain ⟨a0, a2, a4, a5, a6, ao, n, cap, x1, x2, x3, rfl⟩ := hm
  have HD := hide hd
  have HBT := hide hbt
  have hn0 : (en != 0) = true := by simp [he]
  have HC := hide (fun W => recSteady_any pg num kp ph tr s0 v0 s1 v1 th W hr.1 hr.2.1)
  have HR := hide (fun (W : World) (hW : DevAt W b t key F on wait next age) => recorded_ok (next_ok (p := 0) (q := 0) (k := kp) (t := 0) hr (by omega) (by omega) hr.2.2.1 (by omega)) hW)
  clear hd hbt hr
  go_enter Tryz.func185, Tryz.ntmps185
  go_wp2_with fail
  refine (unhide HBT _ ((((unhide HD).alloc _).alloc _).alloc _)).mono ?_
  rintro e w1 ⟨rfl, hb1⟩
  obtain ⟨k1, k2, k3, hs1, hb⟩ := blk3 hb1
  have HD1 := hide (((((unhide HD).alloc _).alloc _).alloc _).kept hb1)
  obtain ⟨hx1, hf1⟩ := block_facts k1
  have K3 := hide k3
  have HB1 := hide hb
  clear hb hb1 k1 k2 k3
  have l1 : w.heap.size < w1.heap.size := (by omega); have n1 : ¬ w.heap.size = w1.heap.size := (by omega)
  go_wp2_with fail
  refine (unhide HC _).mono ?_
  rintro e w2 ⟨rfl, hb2⟩
  have HD2 := hide ((unhide HD1).kept hb2)
  have K3' := hide (kept_block hb2 (unhide K3))
  have hs2 := hb2.size
  have HB2 := hide hb2
  clear hb2 hx1 hf1 K3 HD1
  generalize hN : (num + 1) % 256 = N at *; generalize hP : 1 - pg = P at *; have HN := hide hN; have HP := hide hP; clear hN hP
  go_wp2_with fail
  refine (unhide HR _ (unhide HD2)).mono ?_
  rintro e w3 ⟨g, rfl, hown, hb3⟩
  obtain ⟨hx3, hf3⟩ := block_facts (kept_block hb3 (unhide K3'))
  have hs3 := hb3.size
  have HO : Hid (w3.ownsRow w2.heap.size 136 2 (.slice (some ⟨g, 0, none⟩) 1 1) 1 (gwCells [(P, recP N kp 0 0 s0 v0 s1 v1 0)])) := hown
  have HB3 := hide hb3
  clear hown hb3
  have l3 : w.heap.size + 1 + 1 < w3.heap.size := (by omega); have n3 : ¬ w.heap.size + 1 + 1 = w3.heap.size := (by omega)
  go_wp2
  refine bodyPost_ret (v := outV (.slice (some ⟨g, 0, none⟩) 1 1) on wait next age en ⟨#[]⟩ (-1)) (by simp [results, Tryz.results185, go_sem, hx3, l3]) rfl ⟨some ⟨g, 0, none⟩, 1, rfl, ?_, ?_⟩
  · rw [HN.out, HP.out]
    refine ownsRow_base (base' := w2.heap.size) ?_ (by omega)
    repeat (first | with_reducible refine World.ownsRow.alloc ?_ _ | (with_reducible refine oset ?_ ?_; (focus omega)))
    exact unhide HO
  · repeat (first | with_reducible exact unhide HB | with_reducible exact Below.refl _ _ | with_reducible refine bdrew ?_ | (with_reducible refine brow ?_ ?_; (focus (first | omega | (simp; done) | (simp; omega)))) | (with_reducible refine bset ?_ ?_; (focus (first | omega | (simp; done) | (simp; omega)))) | (with_reducible refine balloc ?_ ?_; (focus (first | omega | (simp; done) | (simp; omega)))) | (with_reducible refine bvia (unhide HB1) ?_ ?_; (focus (first | omega | (simp; done) | (simp; omega)))) | (with_reducible refine bvia (unhide HB2) ?_ ?_; (focus (first | omega | (simp; done) | (simp; omega)))) | (with_reducible refine bvia (unhide HB3) ?_ ?_; (focus (first | omega | (simp; done) | (simp; omega)))) | (with_reducible refine bvia (unhide HB4) ?_ ?_; (focus (first | omega | (simp; done) | (simp; omega)))) | (with_reducible refine bvia (unhide HB5) ?_ ?_; (focus (first | omega | (simp; done) | (simp; omega)))) | (with_reducible refine bvia (unhide HB6) ?_ ?_; (focus (first | omega | (simp; done) | (simp; omega)))))
theorem tryRec_ok {s v : Nat} (h : RecOk pg num kp ph tr s0 v0 s1 v1 th) (hs : s < 256) (hv : v ≤ 65535) : RecOk (1 - pg) ((num + 1) % 256) kp 2 3 (if kp = 0 then s0 else s) (if kp = 0 then v0 else v) (if kp = 0 then s else s1) (if kp = 0 then v else v1) 0 := by
  obtain ⟨h0, h1, h2, h3, h4, h5, h6, h7, h8, h9⟩ := h
  refine ⟨by omega, by omega, h2, by omega, by omega, ?_, ?_, ?_, ?_, by omega⟩ <;> split <;> assumption
set_option maxRecDepth 10000 in
set_option maxHeartbeats 4000000 in
theorem rawInstall_yes (hd : DevAt w b t key F on wait next age) (hr : RecOk pg num kp ph tr s0 v0 s1 v1 th) (im : ByteArray) (hi : im.size ≤ 96) (a0 : Nat) (ha0 : a0 ≤ 65535) (a2 a4 a5 a6 : Int) (ao : Option Addr) (n cap : Nat) (x1 : Bool) (x2 x3 : ByteArray)
    (hbt : ∀ (W : World) (_ : DevAt W b t key F on wait next age), Calls Tryz.prog 195 #[.pointer (some ⟨b, 0, none⟩), recV pg num kp ph tr s0 v0 s1 v1 th, manV a0 a2 a4 a5 a6 (.slice ao n cap) x1 x2 x3] W fun e w' => e = .returned (.tuple #[.string im, .int .i64 0]) ∧ Below W.heap.size W w') :
    Calls Tryz.prog 185 #[.pointer (some ⟨b, 0, none⟩), recV pg num kp ph tr s0 v0 s1 v1 th, manV a0 a2 a4 a5 a6 (.slice ao n cap) x1 x2 x3] w fun e w' => OutRaw w on wait next 0 0 ⟨#[]⟩ (-1) (spreadG (11 + 6 * (1 - kp)) (M.chunksN im.size) im ++ [(1 - pg, recP ((num + 1) % 256) kp 2 3 (if kp = 0 then s0 else im.size) (if kp = 0 then v0 else a0) (if kp = 0 then im.size else s1) (if kp = 0 then a0 else v1) 0)]) e w' := by
  have HD := hide hd
  have HBT := hide hbt
  have hk := hr.2.2.1
  have hcn : M.chunksN im.size ≤ 6 := by unfold M.chunksN; omega
  have HOT := hide (fun W => recOther_any pg num kp ph tr s0 v0 s1 v1 th W hk)
  have HSP := hide (fun W => spread_any (11 + 6 * (1 - kp)) (M.chunksN im.size) im W (by unfold maxLen; omega) (by omega) (by omega))
  have HNE := hide (fun W => needed_any im.size W (by omega))
  have HTR := hide (fun W => recTrying_any pg num kp ph tr s0 v0 s1 v1 th im.size a0 W hr.1 hr.2.1)
  have HW := hide (fun W => written_ok (tryRec_ok hr (s := im.size) (v := a0) (by omega) ha0) W)
  have HL := hide (spreadG_length (11 + 6 * (1 - kp)) (M.chunksN im.size) im)
  generalize hq0 : (if kp = 0 then s0 else im.size) = q0 at *
  generalize hq1 : (if kp = 0 then v0 else a0) = q1 at *
  generalize hq2 : (if kp = 0 then im.size else s1) = q2 at *
  generalize hq3 : (if kp = 0 then a0 else v1) = q3 at *
  clear hq0 hq1 hq2 hq3
  clear hd hbt hr
  go_enter Tryz.func185, Tryz.ntmps185
  go_wp2_with fail
  refine (unhide HBT _ ((((unhide HD).alloc _).alloc _).alloc _)).mono ?_
  rintro e w1 ⟨rfl, hb1⟩
  obtain ⟨k1, k2, k3, hs1, hb⟩ := blk3 hb1
  have HD1 := hide (((((unhide HD).alloc _).alloc _).alloc _).kept hb1)
  obtain ⟨hx2, hf2⟩ := block_facts k2
  have K1 := hide k1
  have K3 := hide k3
  have HB1 := hide hb
  clear hb hb1 k1 k2 k3
  have l2 : w.heap.size + 1 < w1.heap.size := (by omega); have n2 : ¬ w.heap.size + 1 = w1.heap.size := (by omega)
  go_wp2_with fail
  refine (devStill_any ((unhide HD1).alloc _)).mono ?_
  rintro e w2 ⟨rfl, hb2⟩
  have k1 := kept_block hb2 (alloc_block (unhide K1) _)
  have K3' := hide (kept_block hb2 (alloc_block (unhide K3) _))
  obtain ⟨kS, hs2, hb⟩ := blk1 hb2
  have KS := hide kS
  have K1' := hide k1
  obtain ⟨hx1, hf1⟩ := block_facts k1
  have HB2 := hide hb
  clear hb hb2 kS k1 K1 K3 HD1 hx2 hf2
  have l1 : w.heap.size < w2.heap.size := (by omega); have n1 : ¬ w.heap.size = w2.heap.size := (by omega)
  go_wp2_with fail
  refine (unhide HOT _).mono ?_
  rintro e w3 ⟨rfl, hb3⟩
  have K1 := hide (kept_block hb3 (alloc_block (unhide K1') _))
  have K3 := hide (kept_block hb3 (alloc_block (unhide K3') _))
  have KS3 := hide (kept_block hb3 (alloc_block (unhide KS) _))
  obtain ⟨kO, hs3, hb⟩ := blk1 hb3
  have KO3 := hide kO
  have HB3 := hide hb
  clear hb hb3 kO K1' K3' KS hx1 hf1
  generalize hKK : 1 - kp = kk at *
  have HKK := hide hKK
  clear hKK
  go_wp2_with fail
  refine (slotPage_any kk _ (by have := HKK.out; omega)).mono ?_
  rintro e w' ⟨rfl, rfl⟩
  generalize hPG : 11 + 6 * kk = pgs at *
  have HPG := hide hPG
  clear hPG
  go_wp2_with fail
  refine (unhide HNE _).mono ?_
  rintro e w' ⟨rfl, rfl⟩
  generalize hCN : M.chunksN im.size = cn at *
  have HCN := hide hCN
  clear hCN
  go_wp2_with fail
  refine (unhide HSP _).mono ?_
  rintro e w4 ⟨v4, rfl, hown4, hb4⟩
  obtain ⟨ao4, cap4, rfl, -⟩ := (holdsRow_own hown4).shape
  have K14 := hide (kept_block hb4 (unhide K1))
  have K34 := hide (kept_block hb4 (unhide K3))
  have KS4 := hide (kept_block hb4 (unhide KS3))
  have kO4 := kept_block hb4 (unhide KO3)
  obtain ⟨hxO, hfO⟩ := block_facts kO4
  have KO4 := hide kO4
  have hs4 := hb4.size
  have HO4 := hide hown4
  have HB4 : Hid (Below w.heap.size w w4) := by
    show Below _ _ _
    refine bvia hb4 (by omega) ?_
    repeat (first | with_reducible exact unhide HB | with_reducible exact Below.refl _ _ | with_reducible refine bdrew ?_ | (with_reducible refine brow ?_ ?_; (focus (first | omega | (simp; done) | (simp; omega)))) | (with_reducible refine bset ?_ ?_; (focus (first | omega | (simp; done) | (simp; omega)))) | (with_reducible refine balloc ?_ ?_; (focus (first | omega | (simp; done) | (simp; omega)))) | (with_reducible refine bvia (unhide HB1) ?_ ?_; (focus (first | omega | (simp; done) | (simp; omega)))) | (with_reducible refine bvia (unhide HB2) ?_ ?_; (focus (first | omega | (simp; done) | (simp; omega)))) | (with_reducible refine bvia (unhide HB3) ?_ ?_; (focus (first | omega | (simp; done) | (simp; omega)))) | (with_reducible refine bvia (unhide HB4) ?_ ?_; (focus (first | omega | (simp; done) | (simp; omega)))) | (with_reducible refine bvia (unhide HB5) ?_ ?_; (focus (first | omega | (simp; done) | (simp; omega)))) | (with_reducible refine bvia (unhide HB6) ?_ ?_; (focus (first | omega | (simp; done) | (simp; omega)))))
  clear hb4 hown4 kO4 K1 K3 KS3 KO3 HB1 HB2 HB3
  generalize hN : (num + 1) % 256 = N at *; generalize hP : 1 - pg = P at *; have HN := hide hN; have HP := hide hP; clear hN hP
  have HLc : Hid ((spreadG pgs cn im).length = cn) := HL
  go_wp2_with fail
  have kO9 := (setCell_in (unhide KO4) 0 (.slice ao4 cn cap4)).trans rfl
  have KO9 : Hid ((w4.setCell ⟨w2.heap.size, 0, none⟩ (.slice ao4 cn cap4)).heap[w2.heap.size]? = some (.cells (outC (.slice ao4 cn cap4) on wait next age 0 ⟨#[]⟩ (-1)) 163 (0, 0))) := kO9
  have KS9 : Hid ((w4.setCell ⟨w2.heap.size, 0, none⟩ (.slice ao4 cn cap4)).heap[w1.heap.size]? = some (.cells #[.int .i64 (im.size : Int), .int .i64 a0] 131 (0, 0))) := set_block (unhide KS4) (by omega)
  have K19 : Hid ((w4.setCell ⟨w2.heap.size, 0, none⟩ (.slice ao4 cn cap4)).heap[w.heap.size]? = some (.cells #[.int .i64 pg, .int .i64 num, .int .i64 kp, .int .i64 ph, .int .i64 tr, .int .i64 s0, .int .i64 v0, .int .i64 s1, .int .i64 v1, .int .i64 th] 133 (0, 0))) := set_block (unhide K14) (by omega)
  have HO9 : Hid ((w4.setCell ⟨w2.heap.size, 0, none⟩ (.slice ao4 cn cap4)).ownsRow w3.heap.size 136 2 (.slice ao4 cn cap4) cn (gwCells (spreadG pgs cn im))) := ownsRow_setCell_below (unhide HO4) (a := ⟨w2.heap.size, 0, none⟩) (by show w2.heap.size < w3.heap.size; omega) _
  have hz9 : (w4.setCell ⟨w2.heap.size, 0, none⟩ (.slice ao4 cn cap4)).heap.size = w4.heap.size := by simp
  have HB9 : Hid (Below w.heap.size w (w4.setCell ⟨w2.heap.size, 0, none⟩ (.slice ao4 cn cap4))) := (unhide HB4).setCell (by show w.heap.size ≤ w2.heap.size; omega) _
  have K39 : Hid ((w4.setCell ⟨w2.heap.size, 0, none⟩ (.slice ao4 cn cap4)).heap[w.heap.size + 1 + 1]? = some (.cells (outC (.slice none 0 0) false 0 0 0 0 ⟨#[]⟩ 0) 163 (0, 0))) := set_block (unhide K34) (by omega)
  clear kO9 KO4 KS4 K14 HO4 HB4 K34 hxO hfO
  generalize (w4.setCell ⟨w2.heap.size, 0, none⟩ (.slice ao4 cn cap4)) = W9 at *
  obtain ⟨hx1, hf1⟩ := block_facts (unhide K19)
  obtain ⟨hxS, hfS⟩ := block_facts (unhide KS9)
  obtain ⟨hxO, hfO⟩ := block_facts (unhide KO9)
  generalize hT : recP N kp 2 3 q0 q1 q2 q3 0 = T at *
  have HT := hide hT
  clear hT
  have hsz9 : w3.heap.size ≤ W9.heap.size := by omega
  go_region_law ((first | (refine step_write rfl (.tmp 45) (.tmp 50) rfl w3.heap.size (.slice ao4 cn cap4) (spreadG pgs cn im) (P, T) _ (by rfl) (by rfl) (by simp) (by simp) (by rw [HLc.out]; exact (unhide HOB).alloc _) (by rw [HLc.out]; omega) (by simp; omega) ?_; intro v5 w5 hown5 hbel5 hsz5; have hB5 := hbel5 wB ((Below.refl _ _).alloc (by omega) _); obtain ⟨ao5, cap5, hv5, -⟩ := (holdsRow_own hown5).shape; subst hv5; have kO5 := (hB5.block w2.heap.size (by omega)).trans (unhide KOB); obtain ⟨hxO5, hfO5⟩ := block_facts kO5) | (go_simp; go_at_call 196; refine (unhide HTR _).mono ?_; rintro e wA ⟨rfl, hbA⟩; have KOA := hide (kept_block hbA (drew_block (unhide KO9))); have HOA := hide (ownsRow_below (World.ownsRow.drew (unhide HO9)) hbA); have hsA := hbA.size; simp at hsA; obtain ⟨hxOA, hfOA⟩ := block_facts (unhide KOA)) | (go_simp; go_at_call 75; refine (unhide HW _).mono ?_; rintro e wB ⟨rfl, hbB⟩; have KOB := hide (kept_block hbB (unhide KOA)); have HOB := hide (ownsRow_below (unhide HOA) hbB); have hsB := hbB.size; have lB : w2.heap.size < wB.heap.size := (by omega); have nB : ¬ w2.heap.size = wB.heap.size := (by omega); obtain ⟨hxOB, hfOB⟩ := block_facts (unhide KOB))))
  all_goals
    obtain ⟨hx3, hf3⟩ := block_facts ((hB5.block (w.heap.size + 1 + 1) (by omega)).trans (kept_block hbB (kept_block hbA (drew_block (unhide K39)))))
    have HB : Hid (Below w.heap.size w w5) := (bvia hbB (by omega) (bvia hbA (by simp; omega) ((unhide HB9).drew))).trans (hB5.mono (by omega))
    have HO5 := hide hown5
    have hs5 : w3.heap.size < w5.heap.size := by simp at hsz5; omega
    clear hown5 hbel5 hB5 hbA hbB hx1 hf1 hxS hfS hxO hfO hxOA hfOA hxOB hfOB kO5 HBT HOT HSP HNE HTR HW
    have l5 : w.heap.size + 1 + 1 < w5.heap.size := by omega
    have n5 : ¬ w.heap.size + 1 + 1 = w2.heap.size := by omega
    have n6 : ¬ w2.heap.size = w.heap.size + 1 + 1 := by omega
    go_wp2
    refine bodyPost_ret (v := outV (.slice ao5 ((spreadG pgs cn im).length + 1) cap5) on wait next 0 0 ⟨#[]⟩ (-1)) (by simp [results, Tryz.results185, go_sem, hx3]) rfl ?_
    rw [HKK.out, HPG.out, HCN.out, HN.out, HP.out, HT.out]
    refine ⟨ao5, cap5, by rw [List.length_append]; rfl, ?_, ?_⟩
    · refine ownsRow_base (base' := w3.heap.size) ?_ (by omega)
      repeat (first | with_reducible refine World.ownsRow.alloc ?_ _ | (with_reducible refine oset ?_ ?_; (focus omega)))
      exact unhide HO5
    · repeat (first | with_reducible exact unhide HB | with_reducible exact Below.refl _ _ | with_reducible refine bdrew ?_ | (with_reducible refine brow ?_ ?_; (focus (first | omega | (simp; done) | (simp; omega)))) | (with_reducible refine bset ?_ ?_; (focus (first | omega | (simp; done) | (simp; omega)))) | (with_reducible refine balloc ?_ ?_; (focus (first | omega | (simp; done) | (simp; omega)))) | (with_reducible refine bvia (unhide HB1) ?_ ?_; (focus (first | omega | (simp; done) | (simp; omega)))) | (with_reducible refine bvia (unhide HB2) ?_ ?_; (focus (first | omega | (simp; done) | (simp; omega)))) | (with_reducible refine bvia (unhide HB3) ?_ ?_; (focus (first | omega | (simp; done) | (simp; omega)))) | (with_reducible refine bvia (unhide HB4) ?_ ?_; (focus (first | omega | (simp; done) | (simp; omega)))) | (with_reducible refine bvia (unhide HB5) ?_ ?_; (focus (first | omega | (simp; done) | (simp; omega)))) | (with_reducible refine bvia (unhide HB6) ?_ ?_; (focus (first | omega | (simp; done) | (simp; omega)))))
end
end Go.Proofs.YtjfmiomopfjecabGreat

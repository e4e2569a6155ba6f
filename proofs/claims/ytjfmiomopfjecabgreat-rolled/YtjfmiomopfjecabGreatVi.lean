/- Texts laid together: KeepRun, NodeImage, NodeNet, NodeAsk, KeepServe, DevRun, KeepSt, KeepGo, KeepChg, KeepOwn. -/
import Derived.Test.YtjfmiomopfjecabGreatVh
import Derived.Test.YtjfmiomopfjecabGreatVb
import Derived.BigQuiet
import Derived.Test.YtjfmiomopfjecabGreatVg
import Derived.ProofKit
import Derived.OpenShut
import Derived.ShutString
import Derived.Lib.SmallJoins
import Derived.ChangeSlices
import Derived.Test.YtjfmiomopfjecabGreatVa
import Derived.Test.YtjfmiomopfjecabGreatVc
import Derived.Test.YtjfmiomopfjecabGreatVd
import Derived.Test.YtjfmiomopfjecabGreatVe
import Derived.Test.YtjfmiomopfjecabGreatVf
/- A device that is played for a change. -/
namespace Go.Proofs.YtjfmiomopfjecabGreat
open Go.RowKit Go.Lib

abbrev runC (b : Nat) (j : M.Job) (ex inp : ByteArray) (ok : Bool) : Array Value := #[.pointer (some ⟨b, 0, none⟩), .string j.key, .string j.old, .string j.now, .int .i64 j.base, .int .i64 j.up, .string j.patch, .string ex, .string j.man, .string inp, .bool ok]
structure RunRel (W : World) (r b : Nat) (j : M.Job) (ex inp : ByteArray) (d : M.Dev) : Prop where
  run : W.heap[r]? = some (.cells (runC b j ex inp true) 32 (0, 0))
  dev : DevRel W b 108 d
  ne : ¬ r = b
  key : d.key.size ≤ 16
  inv : M.Inv' d
  tz : M.Tz d.F
section
variable {W : World} {r b : Nat} {j : M.Job} {ex inp : ByteArray} {d : M.Dev}
theorem RunRel.kept {W' : World} (h : RunRel W r b j ex inp d) (hb : Below W.heap.size W W') : RunRel W' r b j ex inp d := ⟨kept_block hb h.run, h.dev.kept hb, h.ne, h.key, h.inv, h.tz⟩
theorem RunRel.lt (h : RunRel W r b j ex inp d) : r < W.heap.size ∧ b < W.heap.size := ⟨(Array.getElem?_eq_some_iff.1 h.run).1, h.dev.lt⟩
theorem doM_key (d : M.Dev) (e : M.Ev) : (M.doM d e).1.key = d.key := by unfold M.doM; split <;> rfl
theorem RunRel.does {W' : World} (h : RunRel W r b j ex inp d) {e : M.Ev} {y : Ending} (hp : Played W b 108 d e y W') : RunRel W' r b j ex inp (M.doM d e).1 :=
  ⟨(hp.2.2.block r h.lt.1 h.ne).trans h.run, hp.2.1, h.ne, by rw [doM_key]; exact h.key, M.inv_do h.inv e, M.tz_do h.inv h.tz e⟩
set_option maxRecDepth 10000 in
set_option maxHeartbeats 1000000 in
theorem runDo_any (h : RunRel W r b j ex inp d) (e : M.Ev) (ht : e.text.size ≤ maxLen) :
    Calls Tryz.prog 34 #[.pointer (some ⟨r, 0, none⟩), evV e.kind e.n e.text e.cut e.torn] W fun y w' => Played W b 108 d e y w' := by
  have hlt := h.lt
  have hne := h.ne
  have HR := hide h
  have HDO := hide (fun (X : World) (hX : DevRel X b 108 d) => slotsDo_any h.inv h.tz h.key e ht hX)
  obtain ⟨hxr, hfr⟩ := block_facts h.run
  clear h ht
  obtain ⟨k, n, tx, cut, torn⟩ := e
  dsimp only at *
  have rule1 : ∀ (X : World) (o : Nat), X.heap[W.heap.size]? = some (.cells #[.int .i64 k, .int .i64 n, .string tx, .int .i64 cut, .int .i64 torn] 74 (0, 0)) → X.cell? ⟨W.heap.size, o, none⟩ = (#[.int .i64 k, .int .i64 n, .string tx, .int .i64 cut, .int .i64 torn] : Array Value)[o]? := fun X o h => cell_in h o
  have rule2 : ∀ (X : World) (o : Nat), X.heap[r]? = some (.cells (runC b j ex inp true) 32 (0, 0)) → X.cell? ⟨r, o, none⟩ = (runC b j ex inp true)[o]? := fun X o h => cell_in h o
  have K := hide (unhide HR).run
  have l1 : r < W.heap.size := (by omega); have n1 : ¬ r = W.heap.size := (by omega)
  have n2 : ¬ r = W.heap.size + 1 := by omega
  have l2 : r < W.heap.size + 1 := by omega
  go_enter Tryz.func34, Tryz.ntmps34
  go_wp2_with fail
  go_region_held3 (fun X => X.heap[W.heap.size]? = some (.cells #[.int .i64 k, .int .i64 n, .string tx, .int .i64 cut, .int .i64 torn] 74 (0, 0)) ∧ X.heap[r]? = some (.cells (runC b j ex inp true) 32 (0, 0))) (refine ⟨?_, ?_⟩ <;> (repeat (first | with_reducible exact hC1 | with_reducible exact hC2 | with_reducible exact unhide K | with_reducible exact drew_block (first_block _ _ _) | with_reducible refine ablk ?_ | with_reducible refine drew_block ?_ | (with_reducible refine sblk ?_ ?_; (focus omega))))) ((go_at_call 57; refine (unhide HDO _ (DevRel.kept (unhide HR).dev ((((Below.refl _ _).alloc (Nat.le_refl _) _).alloc (by simp) _).drew))).mono ?_; rintro y w1 ⟨rfl, hr1, ho1⟩; have hC1 := (ho1.block W.heap.size (by simp; omega) (by omega)).trans (drew_block (first_block _ _ _)); have hC2 := (ho1.block r (by simp; omega) (by omega)).trans (drew_block (alloc_block (alloc_block (unhide K) _) _)); have kR := (ho1.block (W.heap.size + 1) (by simp) (by omega)).trans (drew_block (second_block _ _ _)); have hxR := (block_facts kR).1; have hfR := (block_facts kR).2))
  all_goals
    have HOL : Hid (Only (· = b) W w1) := (Only.of (((Below.refl W.heap.size W).alloc (Nat.le_refl _) _).alloc (by simp) _).drew).trans ho1
    have HR1 := hide hr1
    have nb : ¬ W.heap.size + 1 = b := by omega
    have nb2 : ¬ b = W.heap.size + 1 := by omega
    clear hC1 hC2 kR hr1 ho1 rule1 rule2 HDO hxr hfr
    generalize hrp : (M.doM d ⟨k, n, tx, cut, torn⟩).2 = rp at *
    have HRP := hide hrp
    clear hrp
    go_wp2
    refine bodyPost_ret (v := rpV rp) (by simp [results, Tryz.results34, go_sem, hxR]) rfl ⟨by rw [HRP.out], ?_, ?_⟩
    · obtain ⟨x, y, z, hd, hm⟩ := unhide HR1
      refine ⟨x, y, z, ?_, hm⟩
      have KD : Hid (w1.heap[b]? = some (.cells (devCells (M.doM d ⟨k, n, tx, cut, torn⟩).1.key (M.doM d ⟨k, n, tx, cut, torn⟩).1.F (M.doM d ⟨k, n, tx, cut, torn⟩).1.on x y z) 108 (0, 0))) := hd
      unfold DevAt
      repeat (first | with_reducible exact unhide KD | (with_reducible refine lblk ?_; (focus (first | rfl | (simp; done)))) | with_reducible refine ablk ?_ | with_reducible refine drew_block ?_ | (with_reducible refine sblk ?_ ?_; (focus (first | omega | (simp; done) | (simp; omega)))))
    · repeat (first | with_reducible exact unhide HOL | with_reducible refine ol_drew ?_ | with_reducible refine ol_dev ?_ | (with_reducible refine ol_set ?_ ?_; (focus (first | omega | (simp; done) | (simp; omega)))) | with_reducible refine ol_alloc ?_ | with_reducible refine ol_via (unhide HB6) ?_ | with_reducible refine ol_via (unhide HB7) ?_)
theorem must_true (W : World) (r : Nat) : Calls Tryz.prog 22 #[.pointer (some ⟨r, 0, none⟩), .bool true] W fun e w' => e = .returned (.tuple #[]) ∧ W = w' := by
  go_enter Tryz.func22, Tryz.ntmps22
  go_wp2
  refine bodyPost_end (v := .tuple #[]) (by simp [results, Tryz.results22, go_sem]) rfl ⟨rfl, rfl⟩
set_option maxRecDepth 10000 in
theorem runStatus_any (h : RunRel W r b j ex inp d) :
    Calls Tryz.prog 28 #[.pointer (some ⟨r, 0, none⟩)] W fun e w' => e = .returned (statOf d) ∧ Below W.heap.size W w' := by
  have hlt := h.lt
  have HR := hide h
  have HS := hide (fun (X : World) (hX : DevRel X b 108 d) => slotsStatus_any h.inv hX)
  obtain ⟨hxr, hfr⟩ := block_facts h.run
  obtain ⟨sb, i1, i2, i3, i4, i5, i6, e⟩ := statOf_shape d
  rw [e] at HS ⊢
  clear h e
  have l1 : r < W.heap.size := (by omega); have n1 : ¬ r = W.heap.size := (by omega)
  go_enter Tryz.func28, Tryz.ntmps28
  go_wp2_with fail
  refine (unhide HS _ (DevRel.kept (unhide HR).dev ((Below.refl _ _).alloc (Nat.le_refl _) _))).mono ?_
  rintro e w1 ⟨rfl, hb1⟩
  obtain ⟨k1, hs1, hb⟩ := blk1 hb1
  obtain ⟨hx1, hf1⟩ := block_facts k1
  have HB := hide hb
  clear hb hb1 k1 hxr hfr
  have l2 : W.heap.size < w1.heap.size := (by omega); have n2 : ¬ W.heap.size = w1.heap.size := (by omega)
  go_wp2
  refine bodyPost_ret (v := .agg #[.bool sb, .int .i64 i1, .int .i64 i2, .int .i64 i3, .int .i64 i4, .int .i64 i5, .int .i64 i6]) (by simp [results, Tryz.results28, go_sem, hx1]) rfl ⟨rfl, ?_⟩
  repeat (first | with_reducible exact unhide HB | with_reducible exact Below.refl _ _ | with_reducible refine bdrew ?_ | (with_reducible refine brow ?_ ?_; (focus (first | omega | (simp; done) | (simp; omega)))) | (with_reducible refine bset ?_ ?_; (focus (first | omega | (simp; done) | (simp; omega)))) | (with_reducible refine balloc ?_ ?_; (focus (first | omega | (simp; done) | (simp; omega)))) | (with_reducible refine bvia (unhide HB1) ?_ ?_; (focus (first | omega | (simp; done) | (simp; omega)))) | (with_reducible refine bvia (unhide HB2) ?_ ?_; (focus (first | omega | (simp; done) | (simp; omega)))) | (with_reducible refine bvia (unhide HB3) ?_ ?_; (focus (first | omega | (simp; done) | (simp; omega)))) | (with_reducible refine bvia (unhide HB4) ?_ ?_; (focus (first | omega | (simp; done) | (simp; omega)))) | (with_reducible refine bvia (unhide HB5) ?_ ?_; (focus (first | omega | (simp; done) | (simp; omega)))) | (with_reducible refine bvia (unhide HB6) ?_ ?_; (focus (first | omega | (simp; done) | (simp; omega)))))
/-- the run goes on: the device is another one now, all else that was there is as it was -/
def Goes (W : World) (r b : Nat) (j : M.Job) (ex inp : ByteArray) (d' : M.Dev) (e : Ending) (w' : World) : Prop := e = .returned (.tuple #[]) ∧ RunRel w' r b j ex inp d' ∧ Only (· = b) W w'
set_option maxRecDepth 10000 in
set_option maxHeartbeats 1000000 in
theorem runGoes_any (h : RunRel W r b j ex inp d) (k n : Int) (tx : ByteArray) (ver : Nat) (ht : tx.size ≤ maxLen) (hrp : (M.doM d ⟨k, n, tx, -1, 0⟩).2 = ⟨0, ver, ⟨#[]⟩, -1⟩) :
    Calls Tryz.prog 13 #[.pointer (some ⟨r, 0, none⟩), .int .i64 k, .int .i64 n, .string tx, .int .i64 ver] W fun e w' => Goes W r b j ex inp (M.doM d ⟨k, n, tx, -1, 0⟩).1 e w' := by
  have HR := hide h
  have HDO := hide (runDo_any h ⟨k, n, tx, -1, 0⟩ ht)
  have HRP := hide hrp
  clear h hrp ht
  go_enter Tryz.func13, Tryz.ntmps13
  go_wp2_with fail
  refine (unhide HDO).mono ?_
  intro y w1 hpl
  have hrel := (unhide HR).does hpl
  obtain ⟨hy, hr1, ho1⟩ := hpl
  rw [HRP.out] at hy
  subst hy
  have HRL := hide hrel
  have HOL1 := hide ho1
  clear hrel hr1 ho1 HDO
  go_wp2_with fail
  refine (must_true _ _).mono ?_
  rintro e w' ⟨rfl, rfl⟩
  go_wp2
  refine bodyPost_end (v := .tuple #[]) (by simp [results, Tryz.results13, go_sem]) rfl ⟨rfl, (unhide HRL).kept ((Below.refl _ _).alloc (Nat.le_refl _) _), ?_⟩
  have HOL := HOL1
  repeat (first | with_reducible exact unhide HOL | with_reducible refine ol_drew ?_ | with_reducible refine ol_dev ?_ | (with_reducible refine ol_set ?_ ?_; (focus (first | omega | (simp; done) | (simp; omega)))) | with_reducible refine ol_alloc ?_ | with_reducible refine ol_via (unhide HB6) ?_ | with_reducible refine ol_via (unhide HB7) ?_)
set_option maxRecDepth 10000 in
theorem runPhase_any (h : RunRel W r b j ex inp d) (ph kv tr : Nat) (a2 a3 a6 : Int) (hst : statOf d = .agg #[.bool true, .int .i64 ph, .int .i64 a2, .int .i64 a3, .int .i64 kv, .int .i64 tr, .int .i64 a6]) :
    Calls Tryz.prog 16 #[.pointer (some ⟨r, 0, none⟩), .int .i64 ph, .int .i64 kv, .int .i64 tr] W fun e w' => e = .returned (.tuple #[]) ∧ Below W.heap.size W w' := by
  have HS := hide (runStatus_any h)
  rw [hst] at HS
  clear h hst
  go_enter Tryz.func16, Tryz.ntmps16
  go_wp2_with fail
  refine (unhide HS).mono ?_
  rintro e w1 ⟨rfl, hb1⟩
  have HB := hide hb1
  have hs1 := hb1.size
  clear hb1 HS
  go_wp2_with fail
  refine (must_true _ _).mono ?_
  rintro e w' ⟨rfl, rfl⟩
  go_wp2
  refine bodyPost_end (v := .tuple #[]) (by simp [results, Tryz.results16, go_sem]) rfl ⟨rfl, ?_⟩
  repeat (first | with_reducible exact unhide HB | with_reducible exact Below.refl _ _ | with_reducible refine bdrew ?_ | (with_reducible refine brow ?_ ?_; (focus (first | omega | (simp; done) | (simp; omega)))) | (with_reducible refine bset ?_ ?_; (focus (first | omega | (simp; done) | (simp; omega)))) | (with_reducible refine balloc ?_ ?_; (focus (first | omega | (simp; done) | (simp; omega)))) | (with_reducible refine bvia (unhide HB1) ?_ ?_; (focus (first | omega | (simp; done) | (simp; omega)))) | (with_reducible refine bvia (unhide HB2) ?_ ?_; (focus (first | omega | (simp; done) | (simp; omega)))) | (with_reducible refine bvia (unhide HB3) ?_ ?_; (focus (first | omega | (simp; done) | (simp; omega)))) | (with_reducible refine bvia (unhide HB4) ?_ ?_; (focus (first | omega | (simp; done) | (simp; omega)))) | (with_reducible refine bvia (unhide HB5) ?_ ?_; (focus (first | omega | (simp; done) | (simp; omega)))) | (with_reducible refine bvia (unhide HB6) ?_ ?_; (focus (first | omega | (simp; done) | (simp; omega)))))
set_option maxRecDepth 10000 in
set_option maxHeartbeats 1000000 in
theorem runAgain_any (h : RunRel W r b j ex inp d) (ver : Nat) (h1 : (M.doM d ⟨1, 0, ⟨#[]⟩, -1, 0⟩).2 = ⟨0, 0, ⟨#[]⟩, -1⟩) (hoff : (M.doM d ⟨1, 0, ⟨#[]⟩, -1, 0⟩).1.on = false)
    (h2 : (M.doM (M.doM d ⟨1, 0, ⟨#[]⟩, -1, 0⟩).1 ⟨2, 0, ⟨#[]⟩, -1, 0⟩).2 = ⟨0, ver, ⟨#[]⟩, -1⟩) :
    Calls Tryz.prog 14 #[.pointer (some ⟨r, 0, none⟩), .int .i64 ver] W fun e w' => Goes W r b j ex inp (M.doM (M.doM d ⟨1, 0, ⟨#[]⟩, -1, 0⟩).1 ⟨2, 0, ⟨#[]⟩, -1, 0⟩).1 e w' := by
  have HG := hide (runGoes_any h 1 0 ⟨#[]⟩ 0 (by show 0 ≤ _; unfold maxLen; omega) h1)
  have HST : Hid (statOf (M.doM d ⟨1, 0, ⟨#[]⟩, -1, 0⟩).1 = statNo) := by show _ = _; unfold statOf; rw [hoff]; rfl
  have H2 := hide h2
  clear h h1 hoff h2
  generalize M.doM d ⟨1, 0, ⟨#[]⟩, -1, 0⟩ = dd at *
  go_enter Tryz.func14, Tryz.ntmps14
  go_wp2_with fail
  refine (unhide HG).mono ?_
  rintro e w1 ⟨rfl, hr1, ho1⟩
  have HR1 := hide hr1
  have HOL1 := hide ho1
  clear hr1 ho1 HG
  go_wp2_with fail
  refine (runStatus_any (unhide HR1)).mono ?_
  rintro e w2 ⟨rfl, hb2⟩
  rw [HST.out]
  have HR2 := hide ((unhide HR1).kept hb2)
  have HB6 := hide hb2
  clear hb2
  go_wp2_with fail
  refine (must_true _ _).mono ?_
  rintro e w' ⟨rfl, rfl⟩
  go_wp2_with fail
  refine (runGoes_any ((unhide HR2).kept ((Below.refl _ _).alloc (Nat.le_refl _) _)) 2 0 ⟨#[]⟩ ver (by show 0 ≤ _; unfold maxLen; omega) (unhide H2)).mono ?_
  rintro e w3 ⟨rfl, hr3, ho3⟩
  have HR3 := hide hr3
  have HOL : Hid (Only (· = b) W w3) := by
    refine Only.trans ?_ ho3
    have HOL := HOL1
    repeat (first | with_reducible exact unhide HOL | with_reducible refine ol_drew ?_ | with_reducible refine ol_dev ?_ | (with_reducible refine ol_set ?_ ?_; (focus (first | omega | (simp; done) | (simp; omega)))) | with_reducible refine ol_alloc ?_ | with_reducible refine ol_via (unhide HB6) ?_ | with_reducible refine ol_via (unhide HB7) ?_)
  clear hr3 ho3
  go_wp2
  exact bodyPost_end (v := .tuple #[]) (by simp [results, Tryz.results14, go_sem]) rfl ⟨rfl, unhide HR3, unhide HOL⟩
end
end Go.Proofs.YtjfmiomopfjecabGreat

/- slotskeep's nodes and images. -/
namespace Go.Proofs.YtjfmiomopfjecabGreat
open Go.RowKit

theorem kOne_cum {w0 : World} (v : Int) (W : World) (h0 : 0 ≤ v) (h1 : v ≤ 255) (hW : Below w0.heap.size w0 W) :
    Calls Tryz.prog 40 #[.int .i64 v] W fun e w' => e = .returned (.string (M.bytesOf [v.toNat])) ∧ Below w0.heap.size w0 w' := by
  obtain ⟨n, rfl⟩ := Int.eq_ofNat_of_zero_le h0
  rw [Int.toNat_natCast]
  exact (kOne_any n W (by omega)).mono fun e w' ⟨a, b⟩ => ⟨a, hW.trans (b.mono hW.size)⟩

theorem three (a b c : Nat) : M.bytesOf [a] ++ M.bytesOf [b] ++ M.bytesOf [c] = M.bytesOf [a, b, c] := by
  rw [M.bytesOf_append, M.bytesOf_append]; rfl
theorem one_size (a : Nat) : (M.bytesOf [a]).size = 1 := by rw [M.bytesOf_size]; rfl
theorem nodeL0 {op a b v : Nat} (h : op % 8 = 0) : M.nodeL op a b v = [0, a, b] := if_pos h
theorem nodeL6 {op a b v : Nat} (h : op % 8 = 6) : M.nodeL op a b v = [6, a % v, b % 16] := by unfold M.nodeL; rw [if_neg (by omega), if_pos h]
theorem nodeL7 {op a b v : Nat} (h : op % 8 = 7) : M.nodeL op a b v = [7, a % v, 0] := by unfold M.nodeL; rw [if_neg (by omega), if_neg (by omega), if_pos h]
theorem nodeLx {op a b v : Nat} (h0 : op % 8 ≠ 0) (h6 : op % 8 ≠ 6) (h7 : op % 8 ≠ 7) : M.nodeL op a b v = [op % 8, a % v, b % v] := by unfold M.nodeL; rw [if_neg h0, if_neg h6, if_neg h7]

theorem emod_nat (a b : Nat) : ((a : Int) % (b : Int)).toNat = a % b := by rw [← Int.natCast_emod, Int.toNat_natCast]
theorem emod_bd (a v : Nat) (ha : a < 256) : 0 ≤ (a : Int) % (v : Int) ∧ (a : Int) % (v : Int) ≤ 255 := by
  rw [← Int.natCast_emod]
  have : a % v ≤ a := Nat.mod_le _ _
  omega
set_option maxHeartbeats 1600000 in
theorem kNode_any (t : ByteArray) (v : Nat) (w : World) (ht : t.size = 3) (hv1 : 1 ≤ v) (hv2 : v ≤ 1000) :
    Calls Tryz.prog 67 #[.string t, .int .i64 v] w fun e w' => e = .returned (.string (M.bytesOf (M.nodeL (M.bz t 0) (M.bz t 1) (M.bz t 2) v))) ∧ Below w.heap.size w w' := by
  have p0 : 0 < t.size := by omega
  have p1 : 1 < t.size := by omega
  have p2 : 2 < t.size := by omega
  rw [← M.bz_at t 0 p0, ← M.bz_at t 1 p1, ← M.bz_at t 2 p2]
  have q0 : (t[0]'p0).toNat < 256 := UInt8.toNat_lt _
  have q1 : (t[1]'p1).toNat < 256 := UInt8.toNat_lt _
  have q2 : (t[2]'p2).toNat < 256 := UInt8.toNat_lt _
  have ht3 : t.size ≤ 3 := by omega
  clear ht
  by_cases h0 : (t[0]'p0).toNat % 8 = 0
  · have HE := hide (nodeL0 (a := (t[1]'p1).toNat) (b := (t[2]'p2).toNat) (v := v) h0)
    have h0' : (((t[0]'p0).toNat : Int) % 8 == 0) = true := beq_iff_eq.2 (by omega)
    have HO : Hid (((t[0]'p0).toNat : Int) % 8 = 0) := by show _ = _; omega
    clear h0
    have hos := one_size
    go_enter Tryz.func67, Tryz.ntmps67
    go_wp2_with fail
    refine (kOne_cum _ _ (by omega) (by omega) (Below.refl _ _)).mono ?_
    rintro e w1 ⟨rfl, hb1⟩
    go_wp2_with fail
    refine (kOne_cum _ _ (by omega) (by omega) hb1).mono ?_
    rintro e w2 ⟨rfl, hb2⟩
    go_wp2_with fail
    refine (kOne_cum _ _ (by omega) (by omega) hb2).mono ?_
    rintro e w3 ⟨rfl, hb3⟩
    go_wp2
    go_ret
    exact ⟨ret_string (by rw [HE.out, three]; congr 2; have := HO.out; omega), hb3⟩
  · have h0' : (((t[0]'p0).toNat : Int) % 8 == 0) = false := beq_eq_false_iff_ne.2 (by omega)
    have hos := one_size
    have hv0 : ((v : Int) == 0) = false := beq_eq_false_iff_ne.2 (by omega)
    have hx0 : 0 ≤ ((t[0]'p0).toNat : Int) % 8 ∧ ((t[0]'p0).toNat : Int) % 8 ≤ 255 := by omega
    have hx1 := emod_bd (t[1]'p1).toNat v q1
    have hx2 := emod_bd (t[2]'p2).toNat v q2
    have hvz : ¬ (v : Int) = 0 := by omega
    have hvn : ¬ v = 0 := by omega
    have hm1 : ((t[1]'p1).toNat : Int).tmod (v : Int) = ((t[1]'p1).toNat : Int) % (v : Int) := Int.tmod_eq_emod_of_nonneg (by omega)
    have hm2 : ((t[2]'p2).toNat : Int).tmod (v : Int) = ((t[2]'p2).toNat : Int) % (v : Int) := Int.tmod_eq_emod_of_nonneg (by omega)
    have hm3 : ((t[2]'p2).toNat : Int).tmod 16 = ((t[2]'p2).toNat : Int) % 16 := Int.tmod_eq_emod_of_nonneg (by omega)
    have HM1 := hide (emod_nat (t[1]'p1).toNat v)
    have HM2 := hide (emod_nat (t[2]'p2).toNat v)
    have HM3 := hide (emod_nat (t[2]'p2).toNat 16)
    have HM0 := hide (emod_nat (t[0]'p0).toNat 8)
    by_cases h6 : (t[0]'p0).toNat % 8 = 6
    · have HE := hide (nodeL6 (a := (t[1]'p1).toNat) (b := (t[2]'p2).toNat) (v := v) h6)
      have h6' : (((t[0]'p0).toNat : Int) % 8 == 6) = true := beq_iff_eq.2 (by omega)
      have H6 := hide h6
      clear h6 h0
      go_enter Tryz.func67, Tryz.ntmps67
      go_wp2_with fail
      go_region_held3 (fun _ => True) (first | trivial | (intros; trivial)) ((go_at_call 40; refine (kOne_cum _ _ (by omega) (by omega) (by first | exact hbN | exact (Below.refl _ _).drew)).mono ?_; rintro e w1 ⟨rfl, hbN⟩))
      go_wp2
      go_ret
      exact ⟨ret_string (by rw [HE.out, three]; rw [← H6.out, ← HM0.out, ← HM1.out, ← HM3.out]; rfl), hbN⟩
    · have h6' : (((t[0]'p0).toNat : Int) % 8 == 6) = false := beq_eq_false_iff_ne.2 (by omega)
      by_cases h7 : (t[0]'p0).toNat % 8 = 7
      · have HE := hide (nodeL7 (a := (t[1]'p1).toNat) (b := (t[2]'p2).toNat) (v := v) h7)
        have h7' : (((t[0]'p0).toNat : Int) % 8 == 7) = true := beq_iff_eq.2 (by omega)
        have H7 := hide h7
        clear h7 h6 h0
        go_enter Tryz.func67, Tryz.ntmps67
        go_wp2_with fail
        go_region_held3 (fun _ => True) (first | trivial | (intros; trivial)) ((go_at_call 40; refine (kOne_cum _ _ (by omega) (by omega) (by first | exact hbN | exact (Below.refl _ _).drew)).mono ?_; rintro e w1 ⟨rfl, hbN⟩))
        go_wp2
        go_ret
        exact ⟨ret_string (by rw [HE.out, three]; rw [← H7.out, ← HM0.out, ← HM1.out]; rfl), hbN⟩
      · have HE := hide (nodeLx (a := (t[1]'p1).toNat) (b := (t[2]'p2).toNat) (v := v) h0 h6 h7)
        have h7' : (((t[0]'p0).toNat : Int) % 8 == 7) = false := beq_eq_false_iff_ne.2 (by omega)
        clear h7 h6 h0
        go_enter Tryz.func67, Tryz.ntmps67
        go_wp2_with fail
        go_region_held3 (fun _ => True) (first | trivial | (intros; trivial)) ((go_at_call 40; refine (kOne_cum _ _ (by omega) (by omega) (by first | exact hbN | exact (Below.refl _ _).drew)).mono ?_; rintro e w1 ⟨rfl, hbN⟩))
        go_wp2
        go_ret
        exact ⟨ret_string (by rw [HE.out, three]; rw [← HM0.out, ← HM1.out, ← HM2.out]; rfl), hbN⟩
end Go.Proofs.YtjfmiomopfjecabGreat

/- slotskeep's Net.image. -/
namespace Go.Proofs.YtjfmiomopfjecabGreat
open Go.RowKit

theorem kOne_at {B : Nat} {w0 : World} (v : Nat) (W : World) (h1 : v ≤ 255) (hW : Below B w0 W) (hB : B ≤ W.heap.size) :
    Calls Tryz.prog 40 #[.int .i64 v] W fun e w' => e = .returned (.string (M.bytesOf [v])) ∧ Below B w0 w' ∧ B ≤ w'.heap.size :=
  (kOne_any v W h1).mono fun _ _ ⟨a, b⟩ => ⟨a, hW.trans (b.mono hB), Nat.le_trans hB b.size⟩
theorem below_in {w w1 : World} {o : Obj} (h : Below (w.heap.size + 1) (w.alloc o) w1) : Below w.heap.size w w1 :=
  ((Below.refl _ _).alloc (Nat.le_refl _) o).trans (h.mono (by omega))
def inN (i : Int) : Nat := 1 + M.pk i 4
theorem inN_bd (i : Int) : 1 ≤ inN i ∧ inN i ≤ 4 := by
  have := M.pk_lt i 4 (by omega)
  unfold inN
  omega
def outsL (n m : Nat) (s : ByteArray) (k : Nat) : List Nat := (List.range k).map fun j => M.bz s j % (n + m)
theorem outsL_length (n m : Nat) (s : ByteArray) (k : Nat) : (outsL n m s k).length = k := by simp [outsL]
theorem outsL_succ (n m : Nat) (s : ByteArray) (k : Nat) : outsL n m s (k + 1) = outsL n m s k ++ [M.bz s k % (n + m)] := by
  unfold outsL; rw [List.range_succ, List.map_append]; rfl
theorem outsL_all (n m : Nat) (s : ByteArray) (k : Nat) : M.AllB (outsL n m s k) := by
  intro x hx
  simp only [outsL, List.mem_map] at hx
  obtain ⟨i, _, rfl⟩ := hx
  have := M.bz_lt s i
  have : M.bz s i % (n + m) ≤ M.bz s i := Nat.mod_le _ _
  omega
theorem outsL_getD (n m : Nat) (s : ByteArray) (k j : Nat) (h : j < k) : (outsL n m s k).getD j 0 = M.bz s j % (n + m) := by simp [outsL, h]
/-- how many nodes a text gives -/
def nodesN (t : ByteArray) : Nat := (fstT t 72).size / 3
theorem nodesN_le (t : ByteArray) : nodesN t ≤ 24 := by
  have := fstT_size t 72
  unfold nodesN
  omega
def imageL (i o : Int) (t s : ByteArray) : List Nat := M.imgL (inN i) (nodesN t) (inN o) (M.nodesL (fstT t 72) (inN i) (nodesN t)) (outsL (inN i) (nodesN t) s (inN o))

theorem four (a b c d : Nat) : M.bytesOf [a] ++ M.bytesOf [b] ++ M.bytesOf [c] ++ M.bytesOf [d] = M.bytesOf [a, b, c, d] := by
  rw [M.bytesOf_append, M.bytesOf_append, M.bytesOf_append]; rfl
theorem em_bytes : (⟨#[77]⟩ : ByteArray) = M.bytesOf [77] := rfl
theorem cut3 (t : ByteArray) (k : Nat) (h : 3 * k + 3 ≤ t.size) : (t.extract (3 * k) (3 * k + 3)).size = 3 ∧ M.bz (t.extract (3 * k) (3 * k + 3)) 0 = M.bz t (3 * k) ∧ M.bz (t.extract (3 * k) (3 * k + 3)) 1 = M.bz t (3 * k + 1) ∧ M.bz (t.extract (3 * k) (3 * k + 3)) 2 = M.bz t (3 * k + 2) := by
  have e : t.extract (3 * k) (3 * k + 3) = M.bytesOf [M.bz t (3 * k), M.bz t (3 * k + 1), M.bz t (3 * k + 2)] := by
    conv => lhs; rw [M.bytesOf_bz t, M.bytesOf_extract]
    congr 1
    have h0 : 3 * k < t.size := by omega
    have h1 : 3 * k + 1 < t.size := by omega
    have h2 : 3 * k + 2 < t.size := by omega
    apply List.ext_getElem?
    intro i
    rw [show 3 * k + 3 - 3 * k = 3 from by omega, List.getElem?_take, List.getElem?_drop]
    match i with
    | 0 => simp [h0]
    | 1 => simp [h1]
    | 2 => simp [h2]
    | i + 3 => rw [if_neg (by omega)]; simp
  have ha : M.AllB [M.bz t (3 * k), M.bz t (3 * k + 1), M.bz t (3 * k + 2)] := by
    intro x hx
    have := M.bz_lt t (3 * k)
    have := M.bz_lt t (3 * k + 1)
    have := M.bz_lt t (3 * k + 2)
    simp at hx
    omega
  rw [e, M.bytesOf_size, M.bz_bytesOf ha, M.bz_bytesOf ha, M.bz_bytesOf ha]
  exact ⟨rfl, rfl, rfl, rfl⟩

set_option maxHeartbeats 1600000 in
theorem kImage_any (i0 o : Int) (t s : ByteArray) (w : World) (hi0 : -9223372036854775808 ≤ i0) (hi1 : i0 ≤ 9223372036854775807) (ho0 : -9223372036854775808 ≤ o) (ho1 : o ≤ 9223372036854775807) (ht : t.size ≤ maxLen) (hs : s.size ≤ maxLen) :
    Calls Tryz.prog 53 #[.agg #[.int .i64 i0, .int .i64 o, .string t, .string s]] w fun e w' => e = .returned (.string (M.bytesOf (imageL i0 o t s))) ∧ Below w.heap.size w w' := by
  have bi := inN_bd i0
  have bo := inN_bd o
  have bm := nodesN_le t
  have HFIN : Hid (imageL i0 o t s = M.imgL (inN i0) (nodesN t) (inN o) (M.nodesL (fstT t 72) (inN i0) (nodesN t)) (outsL (inN i0) (nodesN t) s (inN o))) := rfl
  have HIN : Hid ((1 : Int) + (M.pk i0 4 : Int) = (inN i0 : Int)) := by show _ = _; unfold inN; omega
  have HON : Hid ((1 : Int) + (M.pk o 4 : Int) = (inN o : Int)) := by show _ = _; unfold inN; omega
  have HMN : Hid (((fstT t 72).size : Int) / 3 = (nodesN t : Int)) := by show _ = _; unfold nodesN; omega
  have hm3 : 3 * nodesN t ≤ (fstT t 72).size := by unfold nodesN; omega
  have hu : (fstT t 72).size ≤ 72 := by have := fstT_size t 72; omega
  have hp := M.pk_lt i0 4 (by omega)
  have hq := M.pk_lt o 4 (by omega)
  have hos := one_size
  go_enter Tryz.func53, Tryz.ntmps53
  go_wp2_with fail
  refine (kPick_any i0 4 _ hi0 hi1 (by omega) (by omega)).mono ?_
  rintro e w' ⟨rfl, rfl⟩
  go_wp2_with fail
  refine (kPick_any o 4 _ ho0 ho1 (by omega) (by omega)).mono ?_
  rintro e w' ⟨rfl, rfl⟩
  rw [HIN.out]
  go_wp2_with fail
  refine (kFirst_any t 72 _ ht (by omega)).mono ?_
  rintro e w' ⟨rfl, rfl⟩
  rw [HON.out]
  generalize fstT t 72 = u at *
  generalize inN i0 = n at *
  generalize inN o = c at *
  generalize nodesN t = m at *
  go_wp2_with fail
  refine (kOne_at n _ (by omega) (Below.refl (w.heap.size + 1) _) (by simp)).mono ?_
  rintro e w1 ⟨rfl, hb1, hz1⟩
  rw [HMN.out]
  go_wp2_with fail
  refine (kOne_at m _ (by omega) hb1 hz1).mono ?_
  rintro e w2 ⟨rfl, hb2, hz2⟩
  clear hb1
  go_wp2_with fail
  refine (kOne_at c _ (by omega) hb2 hz2).mono ?_
  rintro e w3 ⟨rfl, hb3, hz3⟩
  clear hb2
  have H0 : Hid (({ data := #[77] } : ByteArray) ++ M.bytesOf [n] ++ M.bytesOf [m] ++ M.bytesOf [c] = M.bytesOf ([77, n, m, c] ++ M.nodesL u n 0)) := by
    rw [em_bytes, four]; rfl
  have HB3 := hide hb3
  clear hb3
  go_wp2_with fail
  go_loopw [7, 8] (fun v i wr => ∃ (k : Nat) (x : ByteArray), k ≤ m ∧ i = .int .i64 k ∧ v = .string x ∧ Hid (x = M.bytesOf ([77, n, m, c] ++ M.nodesL u n k)) ∧ x.size ≤ 4 + 3 * k ∧ Below (w.heap.size + 1) (w.alloc (.cells #[.int .i64 i0, .int .i64 o, .string t, .string s] 23)) wr ∧ w.heap.size + 1 ≤ wr.heap.size) (fun _ i _ => m - (intOf i).toNat)
  case atStart => exact ⟨0, _, by omega, rfl, rfl, H0, by rw [H0.out, M.bytesOf_size]; exact Nat.le_refl _, unhide HB3, hz3⟩
  case round =>
    clear H0 HB3 hz1 hz2 hz3
    obtain ⟨k, x, hk, rfl, rfl, hx, hxs, hbel, hsz⟩ := hrel
    have hc3 : (w.alloc (.cells #[.int .i64 i0, .int .i64 o, .string t, .string s] 23)).cell? ⟨w.heap.size, 3, none⟩ = some (.string s) := by simp
    have hb3 : wr.cell? ⟨w.heap.size, 3, none⟩ = some (.string s) := (hbel.cell (p := ⟨w.heap.size, 3, none⟩) (by simp)).trans hc3
    clear hc3
    have HB := hide hbel
    clear hbel
    by_cases hlt : k < m
    · have hcut := cut3 u k (by omega)
      have HS : Hid (M.nodesL u n (k + 1) = M.nodesL u n k ++ M.nodeL (M.bz u (3 * k)) (M.bz u (3 * k + 1)) (M.bz u (3 * k + 2)) (n + k)) := rfl
      have HC := hide hcut
      clear hcut hb3
      go_wp2_with fail
      generalize u.extract (3 * k) (3 * k + 3) = cut at *
      rw [show ((n : Int) + (k : Int)) = ((n + k : Nat) : Int) from by omega]
      refine (kNode_any cut (n + k) _ HC.out.1 (by omega) (by omega)).mono ?_
      rintro e w4 ⟨rfl, hb4⟩
      have HL := hide (M.nodeL_length (M.bz u (3 * k)) (M.bz u (3 * k + 1)) (M.bz u (3 * k + 2)) (n + k))
      rw [HC.out.2.1, HC.out.2.2.1, HC.out.2.2.2]
      have HX : Hid (x ++ M.bytesOf (M.nodeL (M.bz u (3 * k)) (M.bz u (3 * k + 1)) (M.bz u (3 * k + 2)) (n + k)) = M.bytesOf ([77, n, m, c] ++ M.nodesL u n (k + 1))) := by
        rw [HS.out, hx.out, M.bytesOf_append, List.append_assoc]; rfl
      have hrs : (M.bytesOf (M.nodeL (M.bz u (3 * k)) (M.bz u (3 * k + 1)) (M.bz u (3 * k + 2)) (n + k))).size ≤ 3 := by rw [M.bytesOf_size, HL.out]; omega
      have HZ : Hid ((M.bytesOf ([77, n, m, c] ++ M.nodesL u n (k + 1))).size ≤ 4 + 3 * (k + 1)) := by
        rw [M.bytesOf_size, List.length_append, M.nodesL_length]; show 4 + _ ≤ _; omega
      have HB4 := hide ((unhide HB).trans (hb4.mono hsz))
      have hsz4 := Nat.le_trans hsz hb4.size
      clear hb4 HC HL HS
      generalize M.bytesOf (M.nodeL (M.bz u (3 * k)) (M.bz u (3 * k + 1)) (M.bz u (3 * k + 2)) (n + k)) = r at *
      go_wp2
      go_roundw
      case rel => exact ⟨k + 1, x ++ r, by omega, by go_num, rfl, HX, by rw [HX.out]; exact HZ.out, unhide HB4, hsz4⟩
      case measure => simp [intOf]; omega
    · have hkm : k = m := by omega
      subst hkm
      clear hlt
      go_wp2_with fail
      refine (kFill_any s c _ hs (by omega)).mono ?_
      rintro e w5 ⟨rfl, rfl⟩
      have HFa : Hid (∀ j, j < c → M.bz (M.bytesOf (M.fillL s c)) j = M.bz s j) := fun j hj => by rw [M.bz_bytesOf (M.fillL_all _ _), M.fillL_getD _ _ _ hj]
      have hfs : (M.bytesOf (M.fillL s c)).size = c := by rw [M.bytesOf_size, M.fillL_length]
      generalize M.bytesOf (M.fillL s c) = f at *
      have hf1 : c ≤ f.size := by omega
      have hf2 : f.size ≤ c := by omega
      clear hfs hb3
      have H1 : Hid (x = M.bytesOf (([77, n, k, c] ++ M.nodesL u n k) ++ outsL n k s 0)) := by rw [hx.out]; show _ = M.bytesOf (_ ++ []); rw [List.append_nil]
      have hx100 : x.size ≤ 76 + 0 := by omega
      go_wp2_with fail
      go_loopw [7, 10] (fun v i wr => ∃ (j : Nat) (x : ByteArray), j ≤ c ∧ i = .int .i64 j ∧ v = .string x ∧ Hid (x = M.bytesOf (([77, n, k, c] ++ M.nodesL u n k) ++ outsL n k s j)) ∧ x.size ≤ 76 + j ∧ Below (w.heap.size + 1) (w.alloc (.cells #[.int .i64 i0, .int .i64 o, .string t, .string s] 23)) wr ∧ w.heap.size + 1 ≤ wr.heap.size) (fun _ i _ => c - (intOf i).toNat)
      case atStart => exact ⟨0, x, by omega, rfl, rfl, H1, hx100, unhide HB, hsz⟩
      case round =>
        clear H1 hx100 hxs hx HB hsz
        obtain ⟨j, x, hj, rfl, rfl, hx, hxs, hbel, hsz⟩ := hrel
        have HB := hide hbel
        clear hbel
        by_cases hlt : j < c
        · have pj : j < f.size := by omega
          have qj : (f[j]'pj).toNat < 256 := UInt8.toNat_lt _
          have HFj : Hid ((f[j]'pj).toNat = M.bz s j) := by show _ = _; rw [M.bz_at f j pj, HFa.out j hlt]
          have hmd := emod_bd (f[j]'pj).toNat (n + k) qj
          have HMd := hide (show ((f[j]'pj).toNat : Int) % ((n : Int) + (k : Int)) = (((f[j]'pj).toNat % (n + k) : Nat) : Int) from by rw [Int.natCast_emod, Int.natCast_add])
          have hle : (f[j]'pj).toNat % (n + k) ≤ (f[j]'pj).toNat := Nat.mod_le _ _
          have HS := hide (outsL_succ n k s j)
          go_wp2_with fail
          rw [HMd.out]
          refine (kOne_at _ _ (by omega) (unhide HB) hsz).mono ?_
          rintro e w6 ⟨rfl, hb6, hz6⟩
          rw [HFj.out]
          have HX : Hid (x ++ M.bytesOf [M.bz s j % (n + k)] = M.bytesOf (([77, n, k, c] ++ M.nodesL u n k) ++ outsL n k s (j + 1))) := by
            rw [HS.out, hx.out, M.bytesOf_append, List.append_assoc]; rfl
          have HZ : Hid ((M.bytesOf (([77, n, k, c] ++ M.nodesL u n k) ++ outsL n k s (j + 1))).size ≤ 76 + (j + 1)) := by
            rw [M.bytesOf_size, List.length_append, List.length_append, M.nodesL_length, outsL_length]; show 4 + _ + _ ≤ _; omega
          have HB6 := hide hb6
          clear hb6
          go_wp2
          go_roundw
          case rel => exact ⟨j + 1, _, by omega, by go_num, rfl, HX, by rw [HX.out]; exact HZ.out, unhide HB6, hz6⟩
          case measure => simp [intOf]; omega
        · have hjc : j = c := by omega
          subst hjc
          have HE : Hid (x = M.bytesOf (imageL i0 o t s)) := by rw [HFIN.out, hx.out]; unfold M.imgL; rw [List.append_assoc]; rfl
          go_wp2
          go_ret
          exact ⟨ret_string HE.out, below_in (unhide HB)⟩
end Go.Proofs.YtjfmiomopfjecabGreat

/- slotskeep's question, answers, input, behind. -/
namespace Go.Proofs.YtjfmiomopfjecabGreat
open Go.RowKit

theorem kQuestion_any (s inp : ByteArray) (w : World) (hs : 2 ≤ s.size) (hs2 : s.size ≤ 1000) (hi : inp.size ≤ maxLen) :
    Calls Tryz.prog 35 #[.string s, .string inp] w fun e w' => e = .returned (.string (M.bytesOf (M.fillL inp (2 * M.bz s 1)))) ∧ w = w' := by
  have p1 : 1 < s.size := by omega
  have q1 := M.bz_lt s 1
  have HE := hide (M.bz_at s 1 p1)
  have hq : (s[1]'p1).toNat < 256 := UInt8.toNat_lt _
  go_enter Tryz.func35, Tryz.ntmps35
  go_wp2_with fail
  rw [HE.out, show (2 * (M.bz s 1 : Int)) = ((2 * M.bz s 1 : Nat) : Int) from by omega]
  refine (kFill_any inp (2 * M.bz s 1) _ hi (by omega)).mono ?_
  rintro e w' ⟨rfl, rfl⟩
  generalize hr : M.bytesOf (M.fillL inp (2 * M.bz s 1)) = r at *
  have HR := hide hr
  clear hr
  go_wp2
  go_ret
  exact ⟨ret_string HR.out.symm, rfl⟩

theorem ret_tb {a : ByteArray} {c d : Bool} (h : c = d) : Ending.returned (.tuple #[.string a, .bool c]) = .returned (.tuple #[.string a, .bool d]) := by rw [h]
theorem evalOut_size (s inp : ByteArray) : (M.evalOut s inp).size = 2 * M.bz s 3 := M.outTo_size _ _ _ _
theorem kAnswers_any (s q : ByteArray) (w : World) (h : M.isImage s = true) (hq : q.size = 2 * M.bz s 1) :
    Calls Tryz.prog 36 #[.string s, .string q] w fun e w' => e = .returned (.tuple #[.string (M.evalOut s q), .bool true]) ∧ Below w.heap.size w w' := by
  obtain ⟨h0, h1, h2, h3, h4, h5, h6⟩ := M.headOk_eq (image_head h)
  have hs : s.size ≤ maxLen := by unfold maxLen; omega
  have hqs : q.size ≤ maxLen := by unfold maxLen; omega
  have e1 : evalTxt s q = M.evalOut s q := by unfold evalTxt; rw [h, if_pos rfl, if_pos hq]
  have e2 : evalNum s q = 0 := by unfold evalNum; rw [h, if_pos rfl, if_pos hq]
  have hc := fun w => slotsEval_any s q w hs hqs
  rw [e1, e2] at hc
  have HC := hide hc
  have p3 : 3 < s.size := by omega
  have hz := evalOut_size s q
  have hb3 := M.bz_at s 3 p3
  have hq3 : (s[3]'p3).toNat < 256 := UInt8.toNat_lt _
  have i3 : (3 : Int) < (s.size : Int) := by omega
  rw [← hb3] at hz
  generalize M.evalOut s q = r at *
  have hw : IntKind.i64.wrap ((s[3]'p3).toNat : Int) = ((s[3]'p3).toNat : Int) := IntWalk.i64_in _ ⟨by omega, by omega⟩
  have hw2 : IntKind.i64.wrap (2 * ((s[3]'p3).toNat : Int)) = 2 * ((s[3]'p3).toNat : Int) := IntWalk.i64_in _ ⟨by omega, by omega⟩
  have heq : ((r.size : Int) == 2 * ((s[3]'p3).toNat : Int)) = true := beq_iff_eq.2 (by omega)
  clear h h0 h6 e1 e2 hc hz hb3 hq
  go_enter Tryz.func36, Tryz.ntmps36
  go_wp2_with fail
  refine (unhide HC _).mono ?_
  rintro e w1 ⟨rfl, hb⟩
  go_wp2_with fail
  go_quiet (fail)
  go_wp2
  go_ret2
  exact ⟨ret_tb heq, below_drewN hb _⟩

/-- what the image of raw numbers is -/
theorem imageL_facts (i o : Int) (t s : ByteArray) :
    M.isImage (M.bytesOf (imageL i o t s)) = true ∧ M.bz (M.bytesOf (imageL i o t s)) 1 = inN i ∧ M.bz (M.bytesOf (imageL i o t s)) 2 = nodesN t ∧ M.bz (M.bytesOf (imageL i o t s)) 3 = inN o ∧ (M.bytesOf (imageL i o t s)).size = 4 + 3 * nodesN t + inN o := by
  have bi := inN_bd i
  have bo := inN_bd o
  have bm := nodesN_le t
  have hl := M.nodesL_length (fstT t 72) (inN i) (nodesN t)
  have ha := M.nodesL_all (fstT t 72) (inN i) (nodesN t)
  have ho := outsL_length (inN i) (nodesN t) s (inN o)
  have hao := outsL_all (inN i) (nodesN t) s (inN o)
  have hb := M.img_bz (n := inN i) (m := nodesN t) (o := inN o) bi.2 bm bo.2 ha hao
  refine ⟨?_, hb.1, hb.2.1, hb.2.2, M.img_size hl ho⟩
  refine M.img_isImage bi.1 bi.2 bm bo.1 bo.2 hl ho ha hao ?_ ?_
  · intro k hk
    have e0 := M.nodesL_at (fstT t 72) (inN i) (nodesN t) k 0 hk (by omega)
    have e1 := M.nodesL_at (fstT t 72) (inN i) (nodesN t) k 1 hk (by omega)
    have e2 := M.nodesL_at (fstT t 72) (inN i) (nodesN t) k 2 hk (by omega)
    rw [Nat.add_zero] at e0
    rw [e0, e1, e2]
    exact M.nodeL_ok (by omega)
  · intro j hj
    rw [outsL_getD _ _ _ _ _ hj]
    exact Nat.mod_lt _ (by omega)

/-- the same nodes with other outputs -/
def withOuts (i : Int) (t : ByteArray) (outs : List Nat) : List Nat := M.imgL (inN i) (nodesN t) outs.length (M.nodesL (fstT t 72) (inN i) (nodesN t)) outs
theorem nodes_ok (i : Int) (t : ByteArray) (k : Nat) (hk : k < nodesN t) : M.okOp ((M.nodesL (fstT t 72) (inN i) (nodesN t)).getD (3 * k) 0) ((M.nodesL (fstT t 72) (inN i) (nodesN t)).getD (3 * k + 1) 0) ((M.nodesL (fstT t 72) (inN i) (nodesN t)).getD (3 * k + 2) 0) (inN i + k) = true := by
  have bi := inN_bd i
  have e0 := M.nodesL_at (fstT t 72) (inN i) (nodesN t) k 0 hk (by omega)
  have e1 := M.nodesL_at (fstT t 72) (inN i) (nodesN t) k 1 hk (by omega)
  have e2 := M.nodesL_at (fstT t 72) (inN i) (nodesN t) k 2 hk (by omega)
  rw [Nat.add_zero] at e0
  rw [e0, e1, e2]
  exact M.nodeL_ok (by omega)
/-- one node more, which is the output -/
def behindL (i : Int) (t : ByteArray) (op a b : Nat) : List Nat := M.imgL (inN i) (nodesN t + 1) 1 (M.nodesL (fstT t 72) (inN i) (nodesN t) ++ [op, a, b]) [inN i + nodesN t]

theorem drop_take_img (n m o : Nat) (nodes outs : List Nat) (h : nodes.length = 3 * m) : ((M.imgL n m o nodes outs).drop 4).take (3 * m) = nodes := by
  unfold M.imgL
  show ((nodes ++ outs)).take (3 * m) = nodes
  rw [← h, List.take_left]
theorem take_img (n m o : Nat) (nodes outs : List Nat) (h : nodes.length = 3 * m) : ((M.imgL n m o nodes outs).drop 0).take (4 + 3 * m) = [77, n, m, o] ++ nodes := by
  unfold M.imgL
  rw [List.drop_zero, ← List.append_assoc, ← h]
  have : 4 + nodes.length = ([77, n, m, o] ++ nodes).length := by simp; omega
  rw [this, List.take_left]

end Go.Proofs.YtjfmiomopfjecabGreat

/- What a device that is played for a change holds, and how it serves. -/
namespace Go.Proofs.YtjfmiomopfjecabGreat
open Go.RowKit Go.Lib

theorem page_more {F : Nat → Nat} (hF : ∀ j, F j < 256) (p k : Nat) (i : Int) (hi : i = ((p + k : Nat) : Int)) (hp : p + k < 23) :
    (M.mk (16 * k) fun j => F (16 * p + j)) ++ pageT F i = M.mk (16 * (k + 1)) fun j => F (16 * p + j) := by
  subst hi
  have e : pageT F ((p + k : Nat) : Int) = M.mk 16 fun j => F (16 * (p + k) + j) := by
    unfold pageT
    rw [if_pos ⟨by omega, by omega⟩]
    rfl
  rw [e]
  refine M.bz_ext (by simp [M.mk_size]; omega) fun j hj => ?_
  have hj' : j < 16 * (k + 1) := by simp [M.mk_size] at hj; omega
  rw [M.bz_append, M.mk_size, M.bz_mk (fun j _ => hF _) hj']
  by_cases h : j < 16 * k
  · rw [if_pos h, M.bz_mk (fun j _ => hF _) h]
  · rw [if_neg h, M.bz_mk (fun j _ => hF _) (by omega)]
    congr 1
    omega
theorem pageT_le (F : Nat → Nat) (i : Int) : (pageT F i).size ≤ 16 := by
  unfold pageT
  split
  · rw [M.mk_size]; omega
  · show 0 ≤ 16; omega
theorem first_held {F : Nat → Nat} (hF : ∀ j, F j < 256) {p : Nat} {T : ByteArray} (hz : T.size ≤ 96) (hT : ∀ j, j < T.size → F (16 * p + j) = M.bz T j) :
    fstT (M.mk 96 fun j => F (16 * p + j)) T.size = T := by
  refine M.bz_ext (by rw [fstT_size, M.mk_size]; omega) fun j hj => ?_
  have hj' : j < T.size := by rw [fstT_size, M.mk_size] at hj; omega
  rw [fstT_bz _ _ _ hj', M.bz_mk (fun j _ => hF _) (by omega)]
  exact hT j hj'
section
variable {W : World} {r b : Nat} {j : M.Job} {ex inp : ByteArray} {d : M.Dev}
set_option maxRecDepth 10000 in
set_option maxHeartbeats 1000000 in
theorem runStands_any (h : RunRel W r b j ex inp d) (sl : Nat) (hsl : sl ≤ 1) (sb : Bool) (a1 a3 a4 a5 a6 : Int) (hst : statOf d = .agg #[.bool sb, .int .i64 a1, .int .i64 sl, .int .i64 a3, .int .i64 a4, .int .i64 a5, .int .i64 a6])
    (hF : ∀ j, d.F j < 256) (T : ByteArray) (hz : T.size ≤ 96) (hT : ∀ j, j < T.size → d.F (16 * (11 + 6 * sl) + j) = M.bz T j) :
    Calls Tryz.prog 37 #[.pointer (some ⟨r, 0, none⟩), .string T] W fun e w' => e = .returned (.tuple #[]) ∧ Below W.heap.size W w' := by
  have HS := hide (runStatus_any h)
  rw [hst] at HS
  have HE := hide (first_held hF hz hT)
  have HR := hide h
  have HF := hide hF
  have hlt := h.lt.1
  clear h hst hF hT
  go_enter Tryz.func37, Tryz.ntmps37
  go_wp2_with fail
  refine (unhide HS).mono ?_
  rintro e w1 ⟨rfl, hb1⟩
  have hs1 := hb1.size
  have HR1 := hide ((unhide HR).kept hb1)
  have HB1 := hide hb1
  obtain ⟨hxr, hfr⟩ := block_facts (kept_block hb1 (unhide HR).run)
  clear hb1 HS HR
  have hd1 : decide ((sl : Int) < 0) = false := decide_eq_false (by omega)
  have hd2 : decide ((1 : Int) < (sl : Int)) = false := decide_eq_false (by omega)
  have l1 : r < w1.heap.size := (by omega); have n1 : ¬ r = w1.heap.size := (by omega)
  go_wp2_with fail
  go_loopw [5, 6] (fun v i wr => ∃ (k : Nat) (x : ByteArray), k ≤ 6 ∧ i = .int .i64 k ∧ v = .string x ∧ Hid (x = M.mk (16 * k) fun j => d.F (16 * (11 + 6 * sl) + j)) ∧ Below (w1.heap.size + 1) (w1.alloc (.cells #[.bool sb, .int .i64 a1, .int .i64 sl, .int .i64 a3, .int .i64 a4, .int .i64 a5, .int .i64 a6] 52)) wr) (fun _ i _ => 6 - (intOf i).toNat)
  case atStart => exact ⟨0, _, by omega, rfl, rfl, rfl, Below.refl _ _⟩
  case round =>
    obtain ⟨k, x, hk, rfl, rfl, hx, hbel⟩ := hrel
    have hc := box_cell hbel
    have hrel1 := (unhide HR1).kept (one_alloc hbel)
    have hxs : x.size = 16 * k := by rw [hx.out, M.mk_size]
    have HB := hide (one_alloc hbel)
    obtain ⟨hxr', hfr'⟩ := block_facts hrel1.run
    clear hxr hfr
    by_cases hlt6 : k < 6
    · have HBel := hide hbel
      clear hbel
      have HX := hide (page_more (unhide HF) (11 + 6 * sl) k ((11 : Int) + (sl : Int) * 6 + (k : Int)) (by omega) (by omega))
      have HPG : Hid (∀ (n : Nat) (i : Int), i = (11 : Int) + (sl : Int) * 6 + (k : Int) → Calls Tryz.prog 38 #[.pointer (some ⟨b, 0, none⟩), .int .i64 i] (wr.drewN n) fun e w' => e = .returned (.string (pageT d.F ((11 : Int) + (sl : Int) * 6 + (k : Int)))) ∧ w' = wr.drewN n) := by
        rintro n i rfl
        exact (slotsPage_any (unhide HF) (hrel1.dev.kept (below_drewN (Below.refl _ _) n)) _).mono fun e w' hh => ⟨hh.1, hh.2.symm⟩
      have hps := pageT_le d.F ((11 : Int) + (sl : Int) * 6 + (k : Int))
      clear hrel1
      generalize pageT d.F ((11 : Int) + (sl : Int) * 6 + (k : Int)) = pg at *
      go_wp2_with fail
      go_quiet ((go_at_call 38; exact Calls.quiet_of_same (unhide HPG _ _ (by omega))))
      go_wp2
      go_roundw
      case rel => exact ⟨k + 1, x ++ pg, by omega, by go_num, rfl, by show _ = _; rw [hx.out]; exact HX.out, below_drewN (unhide HBel) _⟩
      case measure => simp [intOf]; omega
    · have hk6 : k = 6 := by omega
      subst hk6
      have HEx : Hid (fstT x T.size = T) := by show _ = _; rw [hx.out]; exact HE.out
      clear hlt6 hx HE hbel hrel1
      go_wp2_with fail
      refine (kFirst_any x T.size _ (by unfold maxLen; omega) (by omega)).mono ?_
      rintro e w' ⟨rfl, rfl⟩
      rw [HEx.out]
      go_wp2_with fail
      refine (must_true _ _).mono ?_
      rintro e w' ⟨rfl, rfl⟩
      go_wp2
      refine bodyPost_end (v := .tuple #[]) (by simp [results, Tryz.results37, go_sem]) rfl ⟨rfl, ?_⟩
      exact (unhide HB1).trans ((unhide HB).mono hs1)
set_option maxRecDepth 10000 in
set_option maxHeartbeats 1000000 in
theorem runServes_any (h : RunRel W r b j ex inp d) (ver : Nat) (T : ByteArray) (hE : (if ver = j.up then j.now else j.old) = T) (hi : M.isImage T = true) (hin : inp.size ≤ maxLen)
    (hd : M.doM d ⟨4, 0, M.bytesOf (M.fillL inp (2 * M.bz T 1)), -1, 0⟩ = (d, ⟨0, ver, M.evalOut T (M.bytesOf (M.fillL inp (2 * M.bz T 1))), -1⟩))
    (sl : Nat) (hsl : sl ≤ 1) (sb : Bool) (a1 a3 a4 a5 a6 : Int) (hst : statOf d = .agg #[.bool sb, .int .i64 a1, .int .i64 sl, .int .i64 a3, .int .i64 a4, .int .i64 a5, .int .i64 a6])
    (hF : ∀ j, d.F j < 256) (hT : ∀ j, j < T.size → d.F (16 * (11 + 6 * sl) + j) = M.bz T j) :
    Calls Tryz.prog 15 #[.pointer (some ⟨r, 0, none⟩), .int .i64 ver] W fun e w' => Goes W r b j ex inp d e w' := by
  obtain ⟨h0, h1, h2, h3, h4, h5, h6⟩ := M.headOk_eq (image_head hi)
  have hz : T.size ≤ 96 := by omega
  have hz2 : 2 ≤ T.size := by omega
  have hqz : (M.bytesOf (M.fillL inp (2 * M.bz T 1))).size = 2 * M.bz T 1 := by rw [M.bytesOf_size, M.fillL_length]
  have hq8 : 2 * M.bz T 1 ≤ 600 := by have := M.bz_lt T 1; omega
  have HQ : Hid (∀ X : World, Calls Tryz.prog 35 #[.string T, .string inp] X fun e w' => e = .returned (.string (M.bytesOf (M.fillL inp (2 * M.bz T 1)))) ∧ X = w') := fun X => kQuestion_any T inp X hz2 (by omega) hin
  have HA : Hid (∀ X : World, Calls Tryz.prog 36 #[.string T, .string (M.bytesOf (M.fillL inp (2 * M.bz T 1)))] X fun e w' => e = .returned (.tuple #[.string (M.evalOut T (M.bytesOf (M.fillL inp (2 * M.bz T 1)))), .bool true]) ∧ Below X.heap.size X w') := fun X => kAnswers_any T _ X hi hqz
  have HSt : Hid (∀ X : World, RunRel X r b j ex inp d → Calls Tryz.prog 37 #[.pointer (some ⟨r, 0, none⟩), .string T] X fun e w' => e = .returned (.tuple #[]) ∧ Below X.heap.size X w') := fun X hX => runStands_any hX sl hsl sb a1 a3 a4 a5 a6 hst hF T hz hT
  have HR := hide h
  obtain ⟨hxr, hfr⟩ := block_facts h.run
  clear h0 h1 h2 h3 h4 h5 h6 hst hF hT hi hz hz2 hin h
  generalize M.evalOut T (M.bytesOf (M.fillL inp (2 * M.bz T 1))) = want at *
  generalize M.bytesOf (M.fillL inp (2 * M.bz T 1)) = q at *
  have HDO : Hid (∀ X : World, RunRel X r b j ex inp d → Calls Tryz.prog 34 #[.pointer (some ⟨r, 0, none⟩), evV 4 0 q (-1) 0] X fun y w' => y = .returned (rpV ⟨0, ver, want, -1⟩) ∧ RunRel w' r b j ex inp d ∧ Only (· = b) X w') := by
    intro X hX
    refine (runDo_any hX ⟨4, 0, q, -1, 0⟩ (by show q.size ≤ _; unfold maxLen; omega)).mono fun y w' hp => ?_
    have hrel := hX.does hp
    obtain ⟨hy, _, ho⟩ := hp
    rw [hd] at hrel hy
    exact ⟨hy, hrel, ho⟩
  clear hd hqz
  have hcase : (j.now = T ∧ ver = j.up) ∨ (j.old = T ∧ ¬ (ver : Int) = (j.up : Int)) := by
    by_cases hv : ver = j.up
    · rw [if_pos hv] at hE
      exact .inl ⟨hE, hv⟩
    · rw [if_neg hv] at hE
      exact .inr ⟨hE, by omega⟩
  clear hE
  rcases hcase with ⟨hE, rfl⟩ | ⟨hE, hv'⟩
  all_goals
    have HE := hide hE
    clear hE
    go_enter Tryz.func15, Tryz.ntmps15
    go_wp2_with fail
    rw [HE.out]
    refine (unhide HQ _).mono ?_
    rintro e w1 ⟨rfl, rfl⟩
    go_wp2_with fail
    refine (unhide HA _).mono ?_
    rintro e w1 ⟨rfl, hb1⟩
    have HR1 := hide ((unhide HR).kept hb1)
    have HB1 := hide hb1
    clear hb1 hxr hfr HQ HA HR HE
    go_wp2_with fail
    refine (unhide HDO _ (unhide HR1)).mono ?_
    rintro e w2 ⟨rfl, hr2, ho2⟩
    have HOL := hide ((Only.of (unhide HB1)).trans ho2)
    have HR2 := hide hr2
    clear hr2 ho2 HDO HR1 HB1
    try clear hv'
    go_wp2_with fail
    refine (must_true _ _).mono ?_
    rintro e w' ⟨rfl, rfl⟩
    go_wp2_with fail
    refine (unhide HSt _ ((unhide HR2).kept ((Below.refl _ _).alloc (Nat.le_refl _) _))).mono ?_
    rintro e w3 ⟨rfl, hb3⟩
    have HR3 := hide (((unhide HR2).kept ((Below.refl _ _).alloc (Nat.le_refl _) _)).kept hb3)
    have HB6 := hide hb3
    clear hb3 HSt
    go_wp2
    refine bodyPost_end (v := .tuple #[]) (by simp [results, Tryz.results15, go_sem]) rfl ⟨rfl, unhide HR3, ?_⟩
    repeat (first | with_reducible exact unhide HOL | with_reducible refine ol_drew ?_ | with_reducible refine ol_dev ?_ | (with_reducible refine ol_set ?_ ?_; (focus (first | omega | (simp; done) | (simp; omega)))) | with_reducible refine ol_alloc ?_ | with_reducible refine ol_via (unhide HB6) ?_ | with_reducible refine ol_via (unhide HB7) ?_)
end
end Go.Proofs.YtjfmiomopfjecabGreat

/- A change in plain words: what its events come to, one by one, where the power holds. -/
namespace Go.Proofs.YtjfmiomopfjecabGreat.M

def evW (k n : Int) (t : ByteArray) : Ev := ⟨k, n, t, -1, 0⟩
/-- what is served: its version -/
def verP (j : Job) (ph : Nat) (up : Bool) : Nat := if ph = 2 then j.up else if up = true then j.up else j.base
structure St (j : Job) (d : Dev) (ph tr th : Nat) (up : Bool) : Prop where
  inv : Inv' d
  tz : Tz d.F
  sj : Sj j d.F
  key : d.key = j.key
  on : d.on = true
  phase : fld d.F 2 = ph
  tries : fld d.F 3 = tr
  bits : fld d.F 10 = th
  kept : verOf d.F (fld d.F 1) = if up = true then j.up else j.base
theorem St.served {j : Job} {d : Dev} {ph tr th : Nat} {up : Bool} (h : St j d ph tr th up) : verOf d.F (servedD d.F) = verP j ph up := by
  unfold servedD verP
  by_cases e : ph = 2
  · rw [h.phase, if_pos e, if_pos e]
    exact (h.sj.trial (h.phase.trans e)).2.2.2
  · rw [h.phase, if_neg e, if_neg e]
    exact h.kept
theorem St.img {j : Job} (hj : JobOk j) {d : Dev} {ph tr th : Nat} {up : Bool} (h : St j d ph tr th up) : imgOf d.F (servedD d.F) = if verP j ph up = j.up then j.now else j.old := by
  have hl := hj.less
  unfold servedD verP
  by_cases e : ph = 2
  · rw [h.phase, if_pos e, if_pos e, if_pos rfl]
    exact (h.sj.trial (h.phase.trans e)).2.2.1
  · rw [h.phase, if_neg e, if_neg e]
    have hk := h.kept
    cases up
    · rw [if_neg (by simp)] at hk
      have e2 : (if false = true then j.up else j.base) = j.base := if_neg (by simp)
      rw [e2, if_neg (by omega)]
      exact (kept_old hj h.sj hk).1
    · rw [if_pos rfl] at hk
      have e2 : (if true = true then j.up else j.base) = j.up := if_pos rfl
      rw [e2, if_pos rfl]
      rcases h.sj.kept with k | k
      · omega
      · exact k.1
theorem St.steady {j : Job} (hj : JobOk j) {d : Dev} {ph tr th : Nat} (h : St j d ph tr th true) : ph = 0 := by
  have hl := hj.less
  have hk := h.kept
  rw [if_pos rfl] at hk
  have hp := h.inv.2.1.phase
  have h1 : fld d.F 2 ≠ 1 := fun e => by have := (h.sj.fetch e).2.1; omega
  have h2 : fld d.F 2 ≠ 2 := fun e => by have := (h.sj.trial e).2.1; omega
  have := h.phase
  omega
theorem doM_whole {d : Dev} {e : Ev} (h : e.cut < 0) : doM d e = (⟨d.key, puts d.F (planned d e).ws, (planned d e).on, (planned d e).wait, (planned d e).next, (planned d e).age⟩,
     ⟨(planned d e).err, if (planned d e).err = 0 ∧ (planned d e).on = true then verOf (puts d.F (planned d e).ws) (servedD (puts d.F (planned d e).ws)) else 0, (planned d e).text, (planned d e).ask⟩) := by
  unfold doM
  rw [if_neg]
  unfold cuts
  simp
  omega
/-- an event of a change, played to its end -/
theorem st_step {j : Job} (hj : JobOk j) {d : Dev} {ph tr th : Nat} {up : Bool} (h : St j d ph tr th up) {k n : Int} {t : ByteArray} (he : JobEv j (evW k n t)) {p : Plan} (hp : planned d (evW k n t) = p) (herr : p.err = 0) (hon : p.on = true) (htx : p.text = ⟨#[]⟩)
    {ph' tr' th' : Nat} {up' : Bool} (h2 : fld (puts d.F p.ws) 2 = ph') (h3 : fld (puts d.F p.ws) 3 = tr') (h10 : fld (puts d.F p.ws) 10 = th') (hk : verOf (puts d.F p.ws) (fld (puts d.F p.ws) 1) = if up' = true then j.up else j.base) :
    ∃ d', doM d (evW k n t) = (d', ⟨0, verP j ph' up', ⟨#[]⟩, p.ask⟩) ∧ St j d' ph' tr' th' up' ∧ d'.wait = p.wait ∧ d'.next = p.next ∧ d'.age = p.age := by
  have e := doM_whole (d := d) (e := evW k n t) (by show (-1 : Int) < 0; omega)
  have i1 := inv_do h.inv (evW k n t)
  have i2 := tz_do h.inv h.tz (evW k n t)
  have i3 := s_do hj h.inv h.sj he
  rw [e] at i1 i2 i3
  rw [hp] at e i1 i2 i3
  have hs : St j ⟨d.key, puts d.F p.ws, p.on, p.wait, p.next, p.age⟩ ph' tr' th' up' := ⟨i1, i2, i3, h.key, hon, h2, h3, h10, hk⟩
  refine ⟨_, ?_, hs, rfl, rfl, rfl⟩
  rw [e, herr, htx, if_pos ⟨rfl, hon⟩]
  have := hs.served
  rw [this]
theorem noteW_flds {F : Nat → Nat} {w N : Nat} (h : RecIs F w N) (os : List Wr) (ho : ∀ x ∈ os, 2 ≤ x.1) (kept phase tries l0 l1 a b c d th : Nat) :
    ∀ i, i < 16 → fld (puts F (os ++ [noteW F 0 kept phase tries l0 l1 a b c d th])) i = recB ((N + 1) % 256) kept phase tries l0 l1 a b c d th i := by
  rw [noteW_is h]
  exact (all_written h os ho kept phase tries l0 l1 a b c d th).2.1
theorem ver_flds {F G : Nat → Nat} (h6 : fld G 6 = fld F 6) (h7 : fld G 7 = fld F 7) (h8 : fld G 8 = fld F 8) (h9 : fld G 9 = fld F 9) {s : Nat} (hs : s ≤ 1) : verOf G s = verOf F s := by
  have hc : s = 0 ∨ s = 1 := by omega
  rcases hc with rfl | rfl
  · show 256 * fld G 6 + fld G 7 = 256 * fld F 6 + fld F 7
    rw [h6, h7]
  · show 256 * fld G 8 + fld G 9 = 256 * fld F 8 + fld F 9
    rw [h8, h9]
/-- behind a record in which lengths and versions stay -/
theorem note_view {F : Nat → Nat} {w N : Nat} (h : RecIs F w N) (os : List Wr) (ho : ∀ x ∈ os, 2 ≤ x.1) (kept phase tries th : Nat) (hk : kept ≤ 1) :
    fld (puts F (os ++ [noteW F 0 kept phase tries (fld F 4) (fld F 5) (fld F 6) (fld F 7) (fld F 8) (fld F 9) th])) 2 = phase ∧ fld (puts F (os ++ [noteW F 0 kept phase tries (fld F 4) (fld F 5) (fld F 6) (fld F 7) (fld F 8) (fld F 9) th])) 3 = tries ∧
    fld (puts F (os ++ [noteW F 0 kept phase tries (fld F 4) (fld F 5) (fld F 6) (fld F 7) (fld F 8) (fld F 9) th])) 10 = th ∧
    verOf (puts F (os ++ [noteW F 0 kept phase tries (fld F 4) (fld F 5) (fld F 6) (fld F 7) (fld F 8) (fld F 9) th])) (fld (puts F (os ++ [noteW F 0 kept phase tries (fld F 4) (fld F 5) (fld F 6) (fld F 7) (fld F 8) (fld F 9) th])) 1) = verOf F kept := by
  have e := noteW_flds h os ho kept phase tries (fld F 4) (fld F 5) (fld F 6) (fld F 7) (fld F 8) (fld F 9) th
  have e1 : fld (puts F (os ++ [noteW F 0 kept phase tries (fld F 4) (fld F 5) (fld F 6) (fld F 7) (fld F 8) (fld F 9) th])) 1 = kept := e 1 (by omega)
  refine ⟨e 2 (by omega), e 3 (by omega), e 10 (by omega), ?_⟩
  rw [e1]
  exact ver_flds (e 6 (by omega)) (e 7 (by omega)) (e 8 (by omega)) (e 9 (by omega)) hk
theorem no_os : ∀ x ∈ ([] : List Wr), 2 ≤ x.1 := fun x hx => by cases hx
theorem planned_on {d : Dev} (hon : d.on = true) {k n : Int} {t : ByteArray} (hk : 3 ≤ k) (hk7 : k ≤ 7) : planned d (evW k n t) = if k = 3 then ticks d else if k = 4 then infers d t else if k = 5 then offers d t else if k = 6 then takes d n t else confirms d := by
  unfold planned evW
  dsimp only
  rw [if_neg (by omega), if_neg (by omega), if_neg (by rw [hon]; simp), if_neg (by omega), if_neg (by omega)]
section
variable {j : Job} {d : Dev} {ph tr th : Nat} {up : Bool}
theorem st_offer (hj : JobOk j) (h : St j d ph tr th false) (hp : ph ≠ 2) :
    ∃ d', doM d (evW 5 0 j.man) = (d', ⟨0, j.base, ⟨#[]⟩, -1⟩) ∧ St j d' 1 0 0 false ∧ d'.wait = 0 ∧ d'.next = 1 ∧ d'.age = d.age := by
  obtain ⟨⟨w, N, hr⟩, hg, _⟩ := h.inv
  have hph := h.phase
  have htr : fld d.F 3 = 0 := h.tz (by omega)
  have hk := h.kept
  rw [if_neg (by simp)] at hk
  have hk1 := hg.kept
  have hin : ∀ x ∈ manPages j.man, 2 ≤ x.1 := fun x hx => (manPages_in hx).1
  have hpl : planned d (evW 5 0 j.man) = ⟨(if fld d.F 2 = 1 then [sameW d.F 0 0 (fld d.F 3)] else []) ++ manPages j.man ++ [sameW d.F (if fld d.F 2 = 1 then 1 else 0) 1 (fld d.F 3)], 0, ⟨#[]⟩, -1, 0, 1, d.age, d.on⟩ := by
    rw [planned_on h.on (by omega) (by omega), if_neg (by omega), if_neg (by omega), if_pos rfl]
    unfold offers
    have hm := hj.man
    rw [← h.key] at hm
    rw [if_neg (by omega), if_neg (by rw [hm]; simp), if_neg]
    · rfl
    · unfold keptV
      rw [hk, hj.m0, hj.m2]
      have := hj.less
      omega
  have hview : fld (puts d.F ((if fld d.F 2 = 1 then [sameW d.F 0 0 (fld d.F 3)] else []) ++ manPages j.man ++ [sameW d.F (if fld d.F 2 = 1 then 1 else 0) 1 (fld d.F 3)])) 2 = 1 ∧
      fld (puts d.F ((if fld d.F 2 = 1 then [sameW d.F 0 0 (fld d.F 3)] else []) ++ manPages j.man ++ [sameW d.F (if fld d.F 2 = 1 then 1 else 0) 1 (fld d.F 3)])) 3 = 0 ∧
      fld (puts d.F ((if fld d.F 2 = 1 then [sameW d.F 0 0 (fld d.F 3)] else []) ++ manPages j.man ++ [sameW d.F (if fld d.F 2 = 1 then 1 else 0) 1 (fld d.F 3)])) 10 = 0 ∧
      verOf (puts d.F ((if fld d.F 2 = 1 then [sameW d.F 0 0 (fld d.F 3)] else []) ++ manPages j.man ++ [sameW d.F (if fld d.F 2 = 1 then 1 else 0) 1 (fld d.F 3)])) (fld (puts d.F ((if fld d.F 2 = 1 then [sameW d.F 0 0 (fld d.F 3)] else []) ++ manPages j.man ++ [sameW d.F (if fld d.F 2 = 1 then 1 else 0) 1 (fld d.F 3)])) 1) = verOf d.F (fld d.F 1) := by
    by_cases e4 : fld d.F 2 = 1
    · rw [if_pos e4, if_pos e4]
      obtain ⟨hr1, hg1, hp1, q1, hn⟩ := after_same hr hg hg.tries
      have v0 := note_view hr [] no_os (fld d.F 1) 0 (fld d.F 3) 0 hk1
      have v := note_view hr1 (manPages j.man) hin (fld (puts d.F [sameW d.F 0 0 (fld d.F 3)]) 1) 1 (fld d.F 3) 0 (by rw [q1]; exact hk1)
      rw [htr] at v v0 hn ⊢
      rw [htr] at q1
      have e : puts d.F ([sameW d.F 0 0 0] ++ manPages j.man ++ [sameW d.F 1 1 0]) = puts (puts d.F [sameW d.F 0 0 0]) (manPages j.man ++ [sameW (puts d.F [sameW d.F 0 0 0]) 0 1 0]) := by
        rw [hn, List.append_assoc, puts_append]
      rw [e]
      refine ⟨v.1, v.2.1, v.2.2.1, v.2.2.2.trans ?_⟩
      exact v0.2.2.2
    · rw [if_neg e4, if_neg e4]
      have v := note_view hr (manPages j.man) hin (fld d.F 1) 1 (fld d.F 3) 0 hk1
      rw [htr] at v ⊢
      exact v
  obtain ⟨v1, v2, v3, v4⟩ := hview
  obtain ⟨d', a1, a2, a3, a4, a5⟩ := st_step hj h (.inr (.inl ⟨rfl, rfl⟩)) hpl rfl h.on rfl v1 v2 v3 (up' := false) (by rw [v4, hk]; simp)
  exact ⟨d', a1, a2, a3, a4, a5⟩
/-- the chunks that are there behind one more -/
def withBit (th i : Nat) : Nat := if th / 2 ^ i % 2 = 1 then th else th + 2 ^ i
theorem st_chunk (hj : JobOk j) (h : St j d 1 tr th false) {i : Nat} (hi : i < chunksN j.patch.size) :
    ∃ d', doM d (evW 6 i (chunkT j i)) = (d', ⟨0, j.base, ⟨#[]⟩, -1⟩) ∧ St j d' 1 0 (withBit th i) false ∧ d'.age = d.age ∧ (if th / 2 ^ i % 2 = 1 then d'.wait = d.wait ∧ d'.next = d.next else d'.wait = 0 ∧ d'.next = 1) := by
  obtain ⟨⟨w, N, hr⟩, hg, _⟩ := h.inv
  have hph := h.phase
  have htr : fld d.F 3 = 0 := h.tz (by omega)
  have hk := h.kept
  rw [if_neg (by simp)] at hk
  have hk1 := hg.kept
  have hb := h.bits
  obtain ⟨_, _, hm, _⟩ := h.sj.fetch hph
  have hm4 : mf d.F 4 = j.patch.size := by rw [hm 4 (by omega)]; exact hj.m4
  have hc6 : chunksN j.patch.size ≤ 6 := chunks_le hj.most
  have hje : JobEv j (evW 6 i (chunkT j i)) := .inr (.inr ⟨i, rfl, hi, rfl, rfl⟩)
  have hpl0 : planned d (evW 6 i (chunkT j i)) = if fld d.F 10 / 2 ^ i % 2 = 1 then idle d else ⟨[textW (5 + i) (chunkT j i) 0, noteW d.F 0 (fld d.F 1) 1 (fld d.F 3) (fld d.F 4) (fld d.F 5) (fld d.F 6) (fld d.F 7) (fld d.F 8) (fld d.F 9) (fld d.F 10 + 2 ^ i)], 0, ⟨#[]⟩, -1, 0, 1, d.age, d.on⟩ := by
    rw [planned_on h.on (by omega) (by omega), if_neg (by omega), if_neg (by omega), if_neg (by omega), if_pos rfl]
    unfold takes
    rw [if_neg (by omega), if_neg]
    · rw [Int.toNat_natCast]
    · rw [Int.toNat_natCast, hm4, chunk_size, hm _ (by omega), hm _ (by omega), hj.chunk i hi]
      omega
  by_cases e : th / 2 ^ i % 2 = 1
  · have hpl : planned d (evW 6 i (chunkT j i)) = idle d := by rw [hpl0, hb, if_pos e]
    obtain ⟨d', a1, a2, a3, a4, a5⟩ := st_step hj h hje hpl rfl h.on rfl (ph' := 1) (tr' := 0) (th' := withBit th i) (up' := false) hph htr (by unfold withBit; rw [if_pos e]; exact hb) (by show verOf d.F (fld d.F 1) = _; rw [hk]; simp)
    refine ⟨d', a1, a2, a5, ?_⟩
    rw [if_pos e]
    exact ⟨a3, a4⟩
  · have hpl : planned d (evW 6 i (chunkT j i)) = ⟨[textW (5 + i) (chunkT j i) 0] ++ [noteW d.F 0 (fld d.F 1) 1 (fld d.F 3) (fld d.F 4) (fld d.F 5) (fld d.F 6) (fld d.F 7) (fld d.F 8) (fld d.F 9) (fld d.F 10 + 2 ^ i)], 0, ⟨#[]⟩, -1, 0, 1, d.age, d.on⟩ := by
      rw [hpl0, if_neg (by rw [hb]; exact e)]
      rfl
    have v := note_view hr [textW (5 + i) (chunkT j i) 0] (by intro x hx; simp only [List.mem_cons, List.not_mem_nil, or_false] at hx; subst hx; show 2 ≤ 5 + i; omega) (fld d.F 1) 1 (fld d.F 3) (fld d.F 10 + 2 ^ i) hk1
    obtain ⟨d', a1, a2, a3, a4, a5⟩ := st_step hj h hje hpl rfl h.on rfl (ph' := 1) (tr' := 0) (th' := withBit th i) (up' := false) v.1 (v.2.1.trans htr) (by rw [v.2.2.1, hb]; unfold withBit; rw [if_neg e]) (by rw [v.2.2.2, hk]; simp)
    refine ⟨d', a1, a2, a5, ?_⟩
    rw [if_neg e]
    exact ⟨a3, a4⟩
theorem missing_nil {F : Nat → Nat} (h : ∀ i, i < chunksN (mf F 4) → fld F 10 / 2 ^ i % 2 = 1) : missing F = [] := by
  unfold missing
  rw [List.filter_eq_nil_iff]
  intro i hi
  rw [List.mem_range] at hi
  have := h i hi
  simp
  omega
theorem st_install (hj : JobOk j) (h : St j d 1 tr th false) (hall : ∀ i, i < chunksN j.patch.size → th / 2 ^ i % 2 = 1) :
    ∃ d', doM d (evW 3 0 ⟨#[]⟩) = (d', ⟨0, j.up, ⟨#[]⟩, -1⟩) ∧ St j d' 2 3 0 false ∧ d'.age = 0 := by
  obtain ⟨⟨w, N, hr⟩, hg, _⟩ := h.inv
  have hph := h.phase
  have hb := h.bits
  have hk1 := hg.kept
  obtain ⟨_, _, hm, _⟩ := h.sj.fetch hph
  have hm4 : mf d.F 4 = j.patch.size := by rw [hm 4 (by omega)]; exact hj.m4
  have hmiss : missing d.F = [] := missing_nil fun i hi => by rw [hb]; rw [hm4] at hi; exact hall i hi
  have hbu := built_job hj h.sj hph hmiss
  have hsz := image_size hj.now
  have hin : ∀ x ∈ slotW (1 - fld d.F 1) j.now, 2 ≤ x.1 := fun x hx => by have := slotW_in (by omega) hx; omega
  have hje : JobEv j (evW 3 0 ⟨#[]⟩) := .inl ⟨by show (3 : Int) ≠ 5; omega, by show (3 : Int) ≠ 6; omega⟩
  have hpl : planned d (evW 3 0 ⟨#[]⟩) = ⟨slotW (1 - fld d.F 1) j.now ++
      [if 1 - fld d.F 1 = 0 then noteW d.F 0 1 2 3 j.now.size (fld d.F 5) (mf d.F 0) (mf d.F 1) (fld d.F 8) (fld d.F 9) 0
       else noteW d.F 0 0 2 3 (fld d.F 4) j.now.size (fld d.F 6) (fld d.F 7) (mf d.F 0) (mf d.F 1) 0], 0, ⟨#[]⟩, -1, d.wait, d.next, 0, d.on⟩ := by
    rw [planned_on h.on (by omega) (by omega), if_pos rfl]
    unfold ticks
    rw [if_neg (by omega), if_pos hph, hmiss]
    show installs d = _
    unfold installs
    rw [hbu]
    simp
  have hv : fld (puts d.F (slotW (1 - fld d.F 1) j.now ++
      [if 1 - fld d.F 1 = 0 then noteW d.F 0 1 2 3 j.now.size (fld d.F 5) (mf d.F 0) (mf d.F 1) (fld d.F 8) (fld d.F 9) 0
       else noteW d.F 0 0 2 3 (fld d.F 4) j.now.size (fld d.F 6) (fld d.F 7) (mf d.F 0) (mf d.F 1) 0])) 2 = 2 ∧ fld (puts d.F (slotW (1 - fld d.F 1) j.now ++
      [if 1 - fld d.F 1 = 0 then noteW d.F 0 1 2 3 j.now.size (fld d.F 5) (mf d.F 0) (mf d.F 1) (fld d.F 8) (fld d.F 9) 0
       else noteW d.F 0 0 2 3 (fld d.F 4) j.now.size (fld d.F 6) (fld d.F 7) (mf d.F 0) (mf d.F 1) 0])) 3 = 3 ∧ fld (puts d.F (slotW (1 - fld d.F 1) j.now ++
      [if 1 - fld d.F 1 = 0 then noteW d.F 0 1 2 3 j.now.size (fld d.F 5) (mf d.F 0) (mf d.F 1) (fld d.F 8) (fld d.F 9) 0
       else noteW d.F 0 0 2 3 (fld d.F 4) j.now.size (fld d.F 6) (fld d.F 7) (mf d.F 0) (mf d.F 1) 0])) 10 = 0 := by
    split
    · have e := noteW_flds hr (slotW (1 - fld d.F 1) j.now) hin 1 2 3 j.now.size (fld d.F 5) (mf d.F 0) (mf d.F 1) (fld d.F 8) (fld d.F 9) 0
      exact ⟨e 2 (by omega), e 3 (by omega), e 10 (by omega)⟩
    · have e := noteW_flds hr (slotW (1 - fld d.F 1) j.now) hin 0 2 3 (fld d.F 4) j.now.size (fld d.F 6) (fld d.F 7) (mf d.F 0) (mf d.F 1) 0
      exact ⟨e 2 (by omega), e 3 (by omega), e 10 (by omega)⟩
  have hkept : verOf (puts d.F (planned d (evW 3 0 ⟨#[]⟩)).ws) (fld (puts d.F (planned d (evW 3 0 ⟨#[]⟩)).ws) 1) = j.base := by
    have hs := s_do hj h.inv h.sj hje
    rw [doM_whole (by show (-1 : Int) < 0; omega)] at hs
    refine (hs.trial ?_).2.1
    show fld (puts d.F (planned d (evW 3 0 ⟨#[]⟩)).ws) 2 = 2
    rw [hpl]
    exact hv.1
  rw [hpl] at hkept
  obtain ⟨d', a1, a2, a3, a4, a5⟩ := st_step hj h hje hpl rfl h.on rfl hv.1 hv.2.1 hv.2.2 (up' := false) (by simpa using hkept)
  exact ⟨d', a1, a2, a5⟩
theorem tick_ev (j : Job) : JobEv j (evW 3 0 ⟨#[]⟩) := .inl ⟨by show (3 : Int) ≠ 5; omega, by show (3 : Int) ≠ 6; omega⟩
theorem st_older (hj : JobOk j) (h : St j d 2 tr th false) (ha : d.age + 1 < 5) : ∃ d', doM d (evW 3 0 ⟨#[]⟩) = (d', ⟨0, j.up, ⟨#[]⟩, -1⟩) ∧ St j d' 2 tr th false ∧ d'.age = d.age + 1 := by
  have hpl : planned d (evW 3 0 ⟨#[]⟩) = ⟨[], 0, ⟨#[]⟩, -1, d.wait, d.next, d.age + 1, d.on⟩ := by
    rw [planned_on h.on (by omega) (by omega), if_pos rfl]
    unfold ticks
    rw [if_pos h.phase, if_neg (by omega)]
  obtain ⟨d', a1, a2, a3, a4, a5⟩ := st_step hj h (tick_ev j) hpl rfl h.on rfl (up' := false) h.phase h.tries h.bits h.kept
  exact ⟨d', a1, a2, a5⟩
theorem st_over (hj : JobOk j) (h : St j d 2 tr th false) (ha : 5 ≤ d.age + 1) : ∃ d', doM d (evW 3 0 ⟨#[]⟩) = (d', ⟨0, j.base, ⟨#[]⟩, -1⟩) ∧ St j d' 0 0 0 false := by
  obtain ⟨⟨w, N, hr⟩, hg, _⟩ := h.inv
  have hpl : planned d (evW 3 0 ⟨#[]⟩) = ⟨[sameW d.F 0 0 0], 0, ⟨#[]⟩, -1, d.wait, d.next, d.age + 1, d.on⟩ := by
    rw [planned_on h.on (by omega) (by omega), if_pos rfl]
    unfold ticks
    rw [if_pos h.phase, if_pos ha]
  have v := note_view hr [] no_os (fld d.F 1) 0 0 0 hg.kept
  obtain ⟨d', a1, a2, a3, a4, a5⟩ := st_step hj h (tick_ev j) hpl rfl h.on rfl (up' := false) v.1 v.2.1 v.2.2.1 (v.2.2.2.trans h.kept)
  exact ⟨d', a1, a2⟩
theorem st_confirm (hj : JobOk j) (h : St j d 2 tr th false) : ∃ d', doM d (evW 7 0 ⟨#[]⟩) = (d', ⟨0, j.up, ⟨#[]⟩, -1⟩) ∧ St j d' 0 0 0 true := by
  obtain ⟨⟨w, N, hr⟩, hg, _⟩ := h.inv
  have hph := h.phase
  have hk1 := hg.kept
  have hpl : planned d (evW 7 0 ⟨#[]⟩) = ⟨[noteW d.F 0 (1 - fld d.F 1) 0 0 (fld d.F 4) (fld d.F 5) (fld d.F 6) (fld d.F 7) (fld d.F 8) (fld d.F 9) 0], 0, ⟨#[]⟩, -1, d.wait, d.next, d.age, d.on⟩ := by
    rw [planned_on h.on (by omega) (by omega), if_neg (by omega), if_neg (by omega), if_neg (by omega), if_neg (by omega)]
    unfold confirms
    rw [if_neg (by omega)]
  have v := note_view hr [] no_os (1 - fld d.F 1) 0 0 0 (by omega)
  obtain ⟨d', a1, a2, a3, a4, a5⟩ := st_step hj h (.inl ⟨by show (7 : Int) ≠ 5; omega, by show (7 : Int) ≠ 6; omega⟩) hpl rfl h.on rfl (up' := true) v.1 v.2.1 v.2.2.1 (v.2.2.2.trans (h.sj.trial hph).2.2.2)
  exact ⟨d', a1, a2⟩
/-- the power fails between two events -/
theorem st_off (h : St j d ph tr th up) : doM d (evW 1 0 ⟨#[]⟩) = ({ d with on := false }, ⟨0, 0, ⟨#[]⟩, -1⟩) := by
  rw [doM_whole (by show (-1 : Int) < 0; omega)]
  have hpl : planned d (evW 1 0 ⟨#[]⟩) = { idle d with on := false } := by
    unfold planned evW
    dsimp only
    rw [if_neg (by omega), if_neg (by omega), if_neg (by rw [h.on]; simp), if_pos rfl]
  rw [hpl]
  simp [idle, puts]
theorem boot_plan {d : Dev} (hoff : d.on = false) : planned d (evW 2 0 ⟨#[]⟩) = boots d := by
  unfold planned evW
  dsimp only
  rw [if_neg (by omega), if_neg (by rw [hoff]; simp), if_neg (by omega), if_neg (by omega), if_pos rfl]
/-- a device that is off, with the flash of a change -/
structure Sf (j : Job) (d : Dev) (ph tr th : Nat) (up : Bool) : Prop where
  inv : Inv' d
  tz : Tz d.F
  sj : Sj j d.F
  key : d.key = j.key
  off : d.on = false
  phase : fld d.F 2 = ph
  tries : fld d.F 3 = tr
  bits : fld d.F 10 = th
  kept : verOf d.F (fld d.F 1) = if up = true then j.up else j.base
theorem st_sf (h : St j d ph tr th up) : Sf j { d with on := false } ph tr th up := by
  have i1 := inv_do h.inv (evW 1 0 ⟨#[]⟩)
  rw [st_off h] at i1
  exact ⟨i1, h.tz, h.sj, h.key, rfl, h.phase, h.tries, h.bits, h.kept⟩
/-- it goes on again -/
theorem sf_boot (hj : JobOk j) (h : Sf j d ph tr th up) {ph' tr' th' : Nat} (hv : if ph = 2 then (if tr = 0 then ph' = 0 ∧ tr' = 0 ∧ th' = 0 else ph' = 2 ∧ tr' = tr - 1 ∧ th' = 0) else ph' = ph ∧ tr' = tr ∧ th' = th) :
    ∃ d', doM d (evW 2 0 ⟨#[]⟩) = (d', ⟨0, verP j ph' up, ⟨#[]⟩, -1⟩) ∧ St j d' ph' tr' th' up ∧ d'.wait = 0 ∧ d'.next = 1 ∧ d'.age = 0 := by
  obtain ⟨⟨w, N, hr⟩, hg, _⟩ := h.inv
  have hk1 := hg.kept
  have hph := h.phase
  have htr := h.tries
  have hje : JobEv j (evW 2 0 ⟨#[]⟩) := .inl ⟨by show (2 : Int) ≠ 5; omega, by show (2 : Int) ≠ 6; omega⟩
  have e := doM_whole (d := d) (e := evW 2 0 ⟨#[]⟩) (by show (-1 : Int) < 0; omega)
  have i1 := inv_do h.inv (evW 2 0 ⟨#[]⟩)
  have i2 := tz_do h.inv h.tz (evW 2 0 ⟨#[]⟩)
  have i3 := s_do hj h.inv h.sj hje
  rw [e] at i1 i2 i3
  rw [boot_plan h.off] at e i1 i2 i3
  have hf : fld (puts d.F (boots d).ws) 2 = ph' ∧ fld (puts d.F (boots d).ws) 3 = tr' ∧ fld (puts d.F (boots d).ws) 10 = th' ∧ verOf (puts d.F (boots d).ws) (fld (puts d.F (boots d).ws) 1) = verOf d.F (fld d.F 1) := by
    show fld (puts d.F (if fld d.F 2 = 2 then (if fld d.F 3 = 0 then [sameW d.F 0 0 0] else [sameW d.F 0 2 (fld d.F 3 - 1)]) else [])) 2 = ph' ∧ fld (puts d.F (if fld d.F 2 = 2 then (if fld d.F 3 = 0 then [sameW d.F 0 0 0] else [sameW d.F 0 2 (fld d.F 3 - 1)]) else [])) 3 = tr' ∧ fld (puts d.F (if fld d.F 2 = 2 then (if fld d.F 3 = 0 then [sameW d.F 0 0 0] else [sameW d.F 0 2 (fld d.F 3 - 1)]) else [])) 10 = th' ∧ verOf (puts d.F (if fld d.F 2 = 2 then (if fld d.F 3 = 0 then [sameW d.F 0 0 0] else [sameW d.F 0 2 (fld d.F 3 - 1)]) else [])) (fld (puts d.F (if fld d.F 2 = 2 then (if fld d.F 3 = 0 then [sameW d.F 0 0 0] else [sameW d.F 0 2 (fld d.F 3 - 1)]) else [])) 1) = verOf d.F (fld d.F 1)
    by_cases e2 : ph = 2
    · rw [if_pos e2] at hv
      rw [if_pos (hph.trans e2)]
      by_cases e3 : tr = 0
      · rw [if_pos e3] at hv
        rw [if_pos (htr.trans e3), hv.1, hv.2.1, hv.2.2]
        exact note_view hr [] no_os (fld d.F 1) 0 0 0 hk1
      · rw [if_neg e3] at hv
        rw [if_neg (by omega), hv.1, hv.2.1, hv.2.2, htr]
        exact note_view hr [] no_os (fld d.F 1) 2 (tr - 1) 0 hk1
    · rw [if_neg e2] at hv
      rw [if_neg (by omega), hv.1, hv.2.1, hv.2.2]
      exact ⟨hph, htr, h.bits, rfl⟩
  have hs : St j ⟨d.key, puts d.F (boots d).ws, (boots d).on, (boots d).wait, (boots d).next, (boots d).age⟩ ph' tr' th' up := ⟨i1, i2, i3, h.key, rfl, hf.1, hf.2.1, hf.2.2.1, hf.2.2.2.trans h.kept⟩
  refine ⟨_, ?_, hs, rfl, rfl, rfl⟩
  rw [e]
  have hsv := hs.served
  show ((_ : Dev), (⟨0, if (0 : Nat) = 0 ∧ true = true then verOf (puts d.F (boots d).ws) (servedD (puts d.F (boots d).ws)) else 0, ⟨#[]⟩, -1⟩ : Rp)) = _
  rw [if_pos ⟨rfl, rfl⟩, hsv]
theorem st_new (hj : JobOk j) : St j (newD j.key j.old j.base) 0 0 0 false := by
  have hb : j.base ≤ 65535 := by have := hj.less; have := hj.top; omega
  have n1 : fld (newF j.old j.base) 1 = 0 := by rw [newF_fld]; exact newF_nought (by omega) (by omega) (by omega) (by omega) (by omega) (by omega)
  have n2 : fld (newF j.old j.base) 2 = 0 := by rw [newF_fld]; exact newF_nought (by omega) (by omega) (by omega) (by omega) (by omega) (by omega)
  have n3 : fld (newF j.old j.base) 3 = 0 := by rw [newF_fld]; exact newF_nought (by omega) (by omega) (by omega) (by omega) (by omega) (by omega)
  have n10 : fld (newF j.old j.base) 10 = 0 := by rw [newF_fld]; exact newF_nought (by omega) (by omega) (by omega) (by omega) (by omega) (by omega)
  refine ⟨new_good hj.old hb, fun _ => n3, new_sj j, rfl, rfl, n2, n3, n10, ?_⟩
  show verOf (newF j.old j.base) (fld (newF j.old j.base) 1) = _
  rw [n1, newF_ver]
  simp
theorem st_infer (hj : JobOk j) (h : St j d ph tr th up) (q : ByteArray) (hq : q.size = 2 * bz (if verP j ph up = j.up then j.now else j.old) 1) :
    doM d (evW 4 0 q) = (d, ⟨0, verP j ph up, evalTxt (if verP j ph up = j.up then j.now else j.old) q, -1⟩) := by
  have hi : isImage (if verP j ph up = j.up then j.now else j.old) = true := by
    split
    · exact hj.now
    · exact hj.old
  have hn : evalNum (if verP j ph up = j.up then j.now else j.old) q = 0 := by
    unfold evalNum
    rw [hi, if_pos rfl, if_pos hq]
  rw [doM_whole (by show (-1 : Int) < 0; omega), planned_on h.on (by omega) (by omega), if_neg (by omega), if_pos rfl]
  unfold infers
  rw [h.img hj, hn]
  have hs := h.served
  have hon := h.on
  simp only [puts, List.foldl_nil]
  rw [if_pos ⟨rfl, hon⟩, hs]
  rfl
end
end Go.Proofs.YtjfmiomopfjecabGreat.M

/- A device that is played for a change: step by step. -/
namespace Go.Proofs.YtjfmiomopfjecabGreat
open Go.RowKit Go.Lib

section
variable {W : World} {r b : Nat} {j : M.Job} {ex inp : ByteArray} {d : M.Dev}
/-- a device in the midst of a change serves what it should -/
theorem serves_st (hj : M.JobOk j) (h : RunRel W r b j ex inp d) {ph tr th : Nat} {up : Bool} (hs : M.St j d ph tr th up) (hin : inp.size ≤ maxLen) :
    Calls Tryz.prog 15 #[.pointer (some ⟨r, 0, none⟩), .int .i64 (M.verP j ph up)] W fun e w' => Goes W r b j ex inp d e w' := by
  have himg := hs.img hj
  have hg := h.inv.2.1
  have hi : M.isImage (if M.verP j ph up = j.up then j.now else j.old) = true := by
    split
    · exact hj.now
    · exact hj.old
  have hsv : M.servedD d.F ≤ 1 := by
    have := hg.kept
    unfold M.servedD
    split <;> omega
  refine runServes_any h (M.verP j ph up) _ rfl hi hin ?_ (M.servedD d.F) hsv true _ _ _ _ _ (by unfold statOf; rw [if_pos hs.on]) hg.bytes ?_
  · have hq : (M.bytesOf (M.fillL inp (2 * M.bz (if M.verP j ph up = j.up then j.now else j.old) 1))).size = 2 * M.bz (if M.verP j ph up = j.up then j.now else j.old) 1 := by rw [M.bytesOf_size, M.fillL_length]
    refine (M.st_infer hj hs _ hq).trans ?_
    have e : evalTxt (if M.verP j ph up = j.up then j.now else j.old) (M.bytesOf (M.fillL inp (2 * M.bz (if M.verP j ph up = j.up then j.now else j.old) 1))) = M.evalOut (if M.verP j ph up = j.up then j.now else j.old) (M.bytesOf (M.fillL inp (2 * M.bz (if M.verP j ph up = j.up then j.now else j.old) 1))) := by
      unfold evalTxt
      rw [hi, if_pos rfl, if_pos hq]
    rw [e]
  · intro k hk
    rw [← himg] at hk ⊢
    have hk' : k < M.fld d.F (4 + M.servedD d.F) := by unfold M.imgOf at hk; rwa [M.mk_size] at hk
    unfold M.imgOf
    rw [M.bz_mk (fun j _ => hg.bytes _) hk']

abbrev jobV (j : M.Job) (ex : ByteArray) : Value := .agg #[.string j.key, .string j.old, .string j.now, .int .i64 j.base, .int .i64 j.up, .string j.patch, .string ex, .string j.man]
theorem jobChunks_any (j : M.Job) (ex : ByteArray) (X : World) (hp : j.patch.size ≤ 96) :
    Calls Tryz.prog 23 #[jobV j ex] X fun e w' => e = .returned (.int .i64 (M.chunksN j.patch.size)) ∧ Below X.heap.size X w' := by
  have HE : Hid ((M.chunksN j.patch.size : Int) = ((j.patch.size : Int) + 15) / 16) := by show _ = _; unfold M.chunksN; omega
  go_enter Tryz.func23, Tryz.ntmps23
  go_wp2
  go_ret
  exact ⟨ret_int (by rw [HE.out]; omega), (Below.refl _ _).alloc (Nat.le_refl _) _⟩
theorem chunk_first (j : M.Job) (i : Nat) : fstT (M.suf j.patch (16 * i)) 16 = M.chunkT j i := by
  unfold M.chunkT M.chunkLen
  refine M.bz_ext (by rw [fstT_size, M.mk_size, M.suf_size]) fun k hk => ?_
  rw [fstT_size, M.suf_size] at hk
  rw [fstT_bz _ _ _ (by omega), M.suf_bz, M.bz_mk (fun k _ => M.bz_lt _ _) (by omega)]
theorem jobChunk_any (j : M.Job) (ex : ByteArray) (i : Nat) (X : World) (hp : j.patch.size ≤ 96) (hi : 16 * i ≤ j.patch.size) :
    Calls Tryz.prog 21 #[jobV j ex, .int .i64 i] X fun e w' => e = .returned (.string (M.chunkT j i)) ∧ Below X.heap.size X w' := by
  have HE := hide (chunk_first j i)
  have hz := M.suf_size j.patch (16 * i)
  have HS : Hid (M.suf j.patch (16 * i) = j.patch.extract (i * 16) j.patch.size) := by show _ = _; rw [Nat.mul_comm]; rfl
  go_enter Tryz.func21, Tryz.ntmps21
  go_wp2_with fail
  rw [← HS.out]
  refine (kFirst_any (M.suf j.patch (16 * i)) 16 _ (by unfold maxLen; omega) (by omega)).mono ?_
  rintro e w' ⟨rfl, rfl⟩
  rw [HE.out]
  clear HE HS
  generalize hC : M.chunkT j i = C at *
  have HC := hide hC
  clear hC
  go_wp2
  go_ret
  exact ⟨ret_string HC.out.symm, (Below.refl _ _).alloc (Nat.le_refl _) _⟩
set_option maxRecDepth 10000 in
set_option maxHeartbeats 1000000 in
theorem runChunk_any (h : RunRel W r b j ex inp d) (i : Nat) (hp : j.patch.size ≤ 96) (hi : 16 * i ≤ j.patch.size) (hd : (M.doM d ⟨6, i, M.chunkT j i, -1, 0⟩).2 = ⟨0, j.base, ⟨#[]⟩, -1⟩) :
    Calls Tryz.prog 27 #[.pointer (some ⟨r, 0, none⟩), .int .i64 i] W fun e w' => Goes W r b j ex inp (M.doM d ⟨6, i, M.chunkT j i, -1, 0⟩).1 e w' := by
  have hcz : (M.chunkT j i).size ≤ 16 := by unfold M.chunkT M.chunkLen; rw [M.mk_size]; omega
  have HCH := hide (fun X : World => jobChunk_any j ex i X hp hi)
  have HG := hide (fun (X : World) (hX : RunRel X r b j ex inp d) => runGoes_any hX 6 i (M.chunkT j i) j.base (by unfold maxLen; omega) hd)
  have HR := hide h
  have K := hide h.run
  have rule2 : ∀ (X : World) (o : Nat), X.heap[r]? = some (.cells (runC b j ex inp true) 32 (0, 0)) → X.cell? ⟨r, o, none⟩ = (runC b j ex inp true)[o]? := fun X o h => cell_in h o
  clear h hd hp hi
  generalize (M.doM d ⟨6, i, M.chunkT j i, -1, 0⟩).1 = d' at *
  generalize M.chunkT j i = C at *
  go_enter Tryz.func27, Tryz.ntmps27
  go_wp2_with fail
  go_region_held3 (fun X => X.heap[r]? = some (.cells (runC b j ex inp true) 32 (0, 0))) (repeat (first | with_reducible exact hC2 | with_reducible exact hC1 | with_reducible exact unhide K | with_reducible refine drew_block ?_)) ((first | (go_at_call 21; refine (unhide HCH _).mono ?_; rintro y w1 ⟨rfl, hb1⟩; have hC1 := kept_block hb1 (drew_block (unhide K)); have HRW := hide ((unhide HR).kept ((Below.refl _ _).drew.trans hb1))) | (go_at_call 13; refine (unhide HG _ (unhide HRW)).mono ?_; rintro y w2 ⟨rfl, hr2, ho2⟩; have hC2 := hr2.run)))
  all_goals
    have HO := hide ((Only.of ((Below.refl W.heap.size W).drew.trans hb1)).trans ho2)
    have HR2 := hide hr2
    clear hr2 ho2 hC2 hC1 hb1 HRW HCH HG rule2
    go_wp2
    exact bodyPost_end (v := .tuple #[]) (by simp [results, Tryz.results27, go_sem]) rfl ⟨rfl, unhide HR2, unhide HO⟩
theorem withBit_has (x i : Nat) : M.withBit x i / 2 ^ i % 2 = 1 := by
  unfold M.withBit
  split
  · assumption
  · have : 0 < 2 ^ i := Nat.two_pow_pos i
    rw [Nat.add_div_right _ this]
    omega
theorem withBit_keeps {x i k : Nat} (hi : i < 6) (hk : k < 6) (h : x / 2 ^ k % 2 = 1) : M.withBit x i / 2 ^ k % 2 = 1 := by
  unfold M.withBit
  split
  · exact h
  · have hi' : i = 0 ∨ i = 1 ∨ i = 2 ∨ i = 3 ∨ i = 4 ∨ i = 5 := by omega
    have hk' : k = 0 ∨ k = 1 ∨ k = 2 ∨ k = 3 ∨ k = 4 ∨ k = 5 := by omega
    rcases hi' with rfl | rfl | rfl | rfl | rfl | rfl <;> rcases hk' with rfl | rfl | rfl | rfl | rfl | rfl <;> simp at * <;> omega
/-- a chunk is given -/
theorem chunk_st (hj : M.JobOk j) (h : RunRel W r b j ex inp d) {tr th : Nat} (hs : M.St j d 1 tr th false) {i : Nat} (hi : i < M.chunksN j.patch.size) :
    Calls Tryz.prog 27 #[.pointer (some ⟨r, 0, none⟩), .int .i64 i] W fun e w' => ∃ d', Goes W r b j ex inp d' e w' ∧ M.St j d' 1 0 (M.withBit th i) false := by
  obtain ⟨d', hd, hs', _⟩ := M.st_chunk hj hs hi
  have hd' : M.doM d ⟨6, i, M.chunkT j i, -1, 0⟩ = (d', ⟨0, j.base, ⟨#[]⟩, -1⟩) := hd
  have hr := runChunk_any h i hj.most (by unfold M.chunksN at hi; omega) (by rw [hd'])
  rw [hd'] at hr
  exact hr.mono fun e w' hh => ⟨d', hh, hs'⟩
theorem missing_none {F : Nat → Nat} {n : Nat} (hn : M.chunksN (M.mf F 4) = n) (h : ∀ i, i < n → M.fld F 10 / 2 ^ i % 2 = 1) : M.missing F = [] := by
  unfold M.missing
  rw [hn, List.filter_eq_nil_iff]
  intro a ha
  have := h a (List.mem_range.1 ha)
  simp [this]
set_option maxRecDepth 10000 in
set_option maxHeartbeats 1000000 in
/-- all chunks are given -/
theorem fed_st (hj : M.JobOk j) (h : RunRel W r b j ex inp d) {tr th : Nat} (hs : M.St j d 1 tr th false) :
    Calls Tryz.prog 24 #[.pointer (some ⟨r, 0, none⟩)] W fun e w' => ∃ (d' : M.Dev) (tr' th' : Nat), Goes W r b j ex inp d' e w' ∧ M.St j d' 1 tr' th' false ∧ ∀ i, i < M.chunksN j.patch.size → th' / 2 ^ i % 2 = 1 := by
  have hn6 : M.chunksN j.patch.size ≤ 6 := by have := hj.most; unfold M.chunksN; omega
  have HCS := hide (fun X : World => jobChunks_any j ex X hj.most)
  have HJ := hide hj
  have HR := hide h
  have HS := hide hs
  have hlt := h.lt
  clear h hs hj
  generalize hn : M.chunksN j.patch.size = n at *
  have HN := hide hn
  clear hn
  go_enter Tryz.func24, Tryz.ntmps24
  go_wp2_with fail
  go_loopw [2] (fun i wr => ∃ (k : Nat) (d' : M.Dev) (tr' th' : Nat), k ≤ n ∧ i = .int .i64 k ∧ RunRel wr r b j ex inp d' ∧ Only (· = b) W wr ∧ M.St j d' 1 tr' th' false ∧ ∀ q, q < k → th' / 2 ^ q % 2 = 1) (fun i _ => n - (intOf i).toNat)
  case atStart => exact ⟨0, d, tr, th, by omega, rfl, unhide HR, Only.of (Below.refl _ _), unhide HS, fun q hq => absurd hq (by omega)⟩
  case round =>
    clear HR HS
    obtain ⟨k, d1, tr1, th1, hk, rfl, hr1, ho1, hs1, hq1⟩ := hrel
    obtain ⟨hxr, hfr⟩ := block_facts hr1.run
    have HR1 := hide hr1
    have HO1 := hide ho1
    have HS1 := hide hs1
    have HQ1 := hide hq1
    have hsz := ho1.size
    clear hr1 ho1 hs1 hq1
    go_wp2_with fail
    refine (unhide HCS _).mono ?_
    rintro e w1 ⟨rfl, hb1⟩
    have HR2 := hide ((unhide HR1).kept hb1)
    have HO2 := hide ((unhide HO1).trans (Only.of hb1))
    clear hb1 hxr hfr HR1 HO1
    by_cases hlt6 : k < n
    · have HC := hide (chunk_st (unhide HJ) (unhide HR2) (unhide HS1) (i := k) (by rw [HN.out]; exact hlt6))
      go_wp2_with fail
      refine (unhide HC).mono ?_
      rintro e w2 ⟨d2, ⟨rfl, hr2, ho2⟩, hs2⟩
      have HR3 := hide hr2
      have HO3 := hide ((unhide HO2).trans ho2)
      have HS3 := hide hs2
      clear hr2 ho2 hs2 HC
      go_wp2
      go_roundw
      case rel =>
        refine ⟨k + 1, d2, 0, M.withBit th1 k, by omega, by go_num, unhide HR3, unhide HO3, unhide HS3, fun q hq => ?_⟩
        by_cases e : q = k
        · subst e; exact withBit_has _ _
        · exact withBit_keeps (by omega) (by omega) (unhide HQ1 q (by omega))
      case measure => simp [intOf]; omega
    · have hkn : k = n := by omega
      subst hkn
      have HST : Hid (statOf d1 = .agg #[.bool true, .int .i64 1, .int .i64 (M.servedD d1.F), .int .i64 (M.verOf d1.F (M.servedD d1.F)), .int .i64 (M.verOf d1.F (M.fld d1.F 1)), .int .i64 (M.fld d1.F 3), .int .i64 0]) := by
        show _ = _
        have hs := unhide HS1
        have hm : M.missing d1.F = [] := by
          refine missing_none (n := k) ?_ fun i hi => ?_
          · have hf := (hs.sj.fetch hs.phase).2.2.1 4 (by omega)
            rw [hf, (unhide HJ).m4, HN.out]
          · rw [hs.bits]; exact unhide HQ1 i hi
        unfold statOf
        rw [if_pos hs.on, if_pos hs.phase, hm]
        unfold statV
        rw [hs.phase]
        rfl
      have HSS := hide (runStatus_any (unhide HR2))
      rw [HST.out] at HSS
      go_wp2_with fail
      refine (unhide HSS).mono ?_
      rintro e w2 ⟨rfl, hb2⟩
      have HR3 := hide ((unhide HR2).kept hb2)
      have HO3 := hide ((unhide HO2).trans (Only.of hb2))
      clear hb2 HSS
      go_wp2_with fail
      refine (must_true _ _).mono ?_
      rintro e w' ⟨rfl, rfl⟩
      go_wp2
      exact bodyPost_end (v := .tuple #[]) (by simp [results, Tryz.results24, go_sem]) rfl ⟨d1, tr1, th1, ⟨rfl, (unhide HR3).kept ((Below.refl _ _).alloc (Nat.le_refl _) _), (unhide HO3).trans (only_alloc _ _ _)⟩, unhide HS1, unhide HQ1⟩
end
end Go.Proofs.YtjfmiomopfjecabGreat

/- A device that is played for a change: its events, one by one. -/
namespace Go.Proofs.YtjfmiomopfjecabGreat
open Go.RowKit Go.Lib

section
variable {W : World} {r b : Nat} {j : M.Job} {ex inp : ByteArray} {d : M.Dev} {ph tr th : Nat} {up : Bool}
theorem nought_le : (⟨#[]⟩ : ByteArray).size ≤ maxLen := by show 0 ≤ _; unfold maxLen; omega
theorem goes_of (h : RunRel W r b j ex inp d) {k n : Int} {tx : ByteArray} {ver : Nat} {d' : M.Dev} (ht : tx.size ≤ maxLen) (hd : M.doM d (M.evW k n tx) = (d', ⟨0, ver, ⟨#[]⟩, -1⟩)) :
    Calls Tryz.prog 13 #[.pointer (some ⟨r, 0, none⟩), .int .i64 k, .int .i64 n, .string tx, .int .i64 ver] W fun e w' => Goes W r b j ex inp d' e w' := by
  have hd' : M.doM d ⟨k, n, tx, -1, 0⟩ = (d', ⟨0, ver, ⟨#[]⟩, -1⟩) := hd
  have := runGoes_any h k n tx ver ht (by rw [hd'])
  rwa [hd'] at this
theorem offer_st (hj : M.JobOk j) (hm : j.man.size ≤ maxLen) (h : RunRel W r b j ex inp d) (hs : M.St j d ph tr th false) (hp : ph ≠ 2) :
    Calls Tryz.prog 13 #[.pointer (some ⟨r, 0, none⟩), .int .i64 5, .int .i64 0, .string j.man, .int .i64 j.base] W fun e w' => ∃ d', Goes W r b j ex inp d' e w' ∧ M.St j d' 1 0 0 false ∧ d'.wait = 0 ∧ d'.next = 1 := by
  obtain ⟨d', hd, hs', h1, h2, _⟩ := M.st_offer hj hs hp
  exact (goes_of h hm hd).mono fun e w' hh => ⟨d', hh, hs', h1, h2⟩
theorem install_st (hj : M.JobOk j) (h : RunRel W r b j ex inp d) (hs : M.St j d 1 tr th false) (hall : ∀ i, i < M.chunksN j.patch.size → th / 2 ^ i % 2 = 1) :
    Calls Tryz.prog 13 #[.pointer (some ⟨r, 0, none⟩), .int .i64 3, .int .i64 0, .string ⟨#[]⟩, .int .i64 j.up] W fun e w' => ∃ d', Goes W r b j ex inp d' e w' ∧ M.St j d' 2 3 0 false ∧ d'.age = 0 := by
  obtain ⟨d', hd, hs', h1⟩ := M.st_install hj hs hall
  exact (goes_of h nought_le hd).mono fun e w' hh => ⟨d', hh, hs', h1⟩
theorem older_st (hj : M.JobOk j) (h : RunRel W r b j ex inp d) (hs : M.St j d 2 tr th false) (ha : d.age + 1 < 5) :
    Calls Tryz.prog 13 #[.pointer (some ⟨r, 0, none⟩), .int .i64 3, .int .i64 0, .string ⟨#[]⟩, .int .i64 j.up] W fun e w' => ∃ d', Goes W r b j ex inp d' e w' ∧ M.St j d' 2 tr th false ∧ d'.age = d.age + 1 := by
  obtain ⟨d', hd, hs', h1⟩ := M.st_older hj hs ha
  exact (goes_of h nought_le hd).mono fun e w' hh => ⟨d', hh, hs', h1⟩
theorem over_st (hj : M.JobOk j) (h : RunRel W r b j ex inp d) (hs : M.St j d 2 tr th false) (ha : 5 ≤ d.age + 1) :
    Calls Tryz.prog 13 #[.pointer (some ⟨r, 0, none⟩), .int .i64 3, .int .i64 0, .string ⟨#[]⟩, .int .i64 j.base] W fun e w' => ∃ d', Goes W r b j ex inp d' e w' ∧ M.St j d' 0 0 0 false := by
  obtain ⟨d', hd, hs'⟩ := M.st_over hj hs ha
  exact (goes_of h nought_le hd).mono fun e w' hh => ⟨d', hh, hs'⟩
theorem confirm_st (hj : M.JobOk j) (h : RunRel W r b j ex inp d) (hs : M.St j d 2 tr th false) :
    Calls Tryz.prog 13 #[.pointer (some ⟨r, 0, none⟩), .int .i64 7, .int .i64 0, .string ⟨#[]⟩, .int .i64 j.up] W fun e w' => ∃ d', Goes W r b j ex inp d' e w' ∧ M.St j d' 0 0 0 true := by
  obtain ⟨d', hd, hs'⟩ := M.st_confirm hj hs
  exact (goes_of h nought_le hd).mono fun e w' hh => ⟨d', hh, hs'⟩
theorem again_st (hj : M.JobOk j) (h : RunRel W r b j ex inp d) (hs : M.St j d ph tr th up) {ph' tr' th' : Nat} (hv : if ph = 2 then (if tr = 0 then ph' = 0 ∧ tr' = 0 ∧ th' = 0 else ph' = 2 ∧ tr' = tr - 1 ∧ th' = 0) else ph' = ph ∧ tr' = tr ∧ th' = th) :
    Calls Tryz.prog 14 #[.pointer (some ⟨r, 0, none⟩), .int .i64 (M.verP j ph' up)] W fun e w' => ∃ d', Goes W r b j ex inp d' e w' ∧ M.St j d' ph' tr' th' up ∧ d'.wait = 0 ∧ d'.next = 1 ∧ d'.age = 0 := by
  have h1 : M.doM d ⟨1, 0, ⟨#[]⟩, -1, 0⟩ = ({ d with on := false }, ⟨0, 0, ⟨#[]⟩, -1⟩) := M.st_off hs
  obtain ⟨d', hd, hs', h3, h4, h5⟩ := M.sf_boot hj (M.st_sf hs) hv
  have h2 : M.doM { d with on := false } ⟨2, 0, ⟨#[]⟩, -1, 0⟩ = (d', ⟨0, M.verP j ph' up, ⟨#[]⟩, -1⟩) := hd
  have := runAgain_any h (M.verP j ph' up) (by rw [h1]) (by rw [h1]) (by rw [h1, h2])
  rw [h1, h2] at this
  exact this.mono fun e w' hh => ⟨d', hh, hs', h3, h4, h5⟩
theorem phase_st (h : RunRel W r b j ex inp d) (hs : M.St j d ph tr th up) {kv : Nat} (hk : (if up = true then j.up else j.base) = kv) :
    Calls Tryz.prog 16 #[.pointer (some ⟨r, 0, none⟩), .int .i64 ph, .int .i64 kv, .int .i64 tr] W fun e w' => e = .returned (.tuple #[]) ∧ Below W.heap.size W w' := by
  subst hk
  refine runPhase_any h ph _ tr (M.servedD d.F) (M.verOf d.F (M.servedD d.F)) (if M.fld d.F 2 = 1 then (M.missing d.F).length else 0 : Nat) ?_
  unfold statOf
  rw [if_pos hs.on]
  unfold statV
  rw [hs.phase, hs.tries, hs.kept]
/-- a run that has begun -/
def Begun (W : World) (j : M.Job) (ex inp : ByteArray) (e : Ending) (w' : World) : Prop :=
  ∃ (r b : Nat) (d : M.Dev), e = .returned (.pointer (some ⟨r, 0, none⟩)) ∧ RunRel w' r b j ex inp d ∧ M.St j d 0 0 0 false ∧ Below W.heap.size W w' ∧ W.heap.size ≤ r ∧ W.heap.size ≤ b
end
end Go.Proofs.YtjfmiomopfjecabGreat

/- A change as it is given; a row of memory that is handed in. -/
namespace Go.Proofs.YtjfmiomopfjecabGreat
open Go.RowKit Go.Lib

/-- a change as it is given -/
structure Chg where
  i1 : Int
  o1 : Int
  t1 : ByteArray
  s1 : ByteArray
  i2 : Int
  o2 : Int
  t2 : ByteArray
  s2 : ByteArray
  key : ByteArray
  base : Int
  up : Int
  diffed : Bool
  shown : Bool
  ask : ByteArray
abbrev chgV (c : Chg) : Value := .agg #[.int .i64 c.i1, .int .i64 c.o1, .string c.t1, .string c.s1, .int .i64 c.i2, .int .i64 c.o2, .string c.t2, .string c.s2, .string c.key, .int .i64 c.base, .int .i64 c.up, .bool c.diffed, .bool c.shown, .string c.ask]
theorem drew_cell {X : World} {a : Addr} {u : Value} (h : X.cell? a = some u) : X.drew.cell? a = some u := h
/-- the slice v of n elements is empty, or its cells are xs -/
def HoldsArg (w : World) (v : Value) (n : Nat) (xs : List Value) : Prop :=
  (∃ p cap, v = .slice p 0 cap ∧ n = 0) ∨ ∃ g off cap, v = .slice (some ⟨g, off, none⟩) n cap ∧ g < w.heap.size ∧ n ≤ cap ∧ cap ≤ maxLen ∧ ∀ j u, xs[j]? = some u → w.cell? ⟨g, off + j, none⟩ = some u
theorem HoldsArg.mono {w w' : World} {v : Value} {n : Nat} {xs : List Value} (h : HoldsArg w v n xs) (hb : Below w.heap.size w w') : HoldsArg w' v n xs := by
  rcases h with h | ⟨g, off, cap, hv, hg, h1, h2, h3⟩
  · exact .inl h
  · exact .inr ⟨g, off, cap, hv, Nat.lt_of_lt_of_le hg hb.size, h1, h2, fun j u hj => (hb.cell (p := ⟨g, off + j, none⟩) hg).trans (h3 j u hj)⟩
theorem HoldsArg.len {w : World} {v : Value} {n : Nat} {xs : List Value} (h : HoldsArg w v n xs) : n ≤ maxLen := by
  rcases h with ⟨_, _, _, h⟩ | ⟨g, off, cap, hv, hg, h1, h2, h3⟩
  · subst h; exact Nat.zero_le _
  · exact Nat.le_trans h1 h2
end Go.Proofs.YtjfmiomopfjecabGreat

/- What a law is handed: a change; a row of numbers. Opened, and shut. -/
namespace Go.Proofs.YtjfmiomopfjecabGreat
open Go.ChangeShapes Go.WideShapes Go.ChangeAt Go.RowKit Go.Joins
open Go.ChangeMaps (open_string shut_string)

structure ChgWf (c : Chg) : Prop where
  i1 : (Lit.int .i64 c.i1).wf = true
  o1 : (Lit.int .i64 c.o1).wf = true
  t1 : c.t1.size ≤ maxLen
  s1 : c.s1.size ≤ maxLen
  i2 : (Lit.int .i64 c.i2).wf = true
  o2 : (Lit.int .i64 c.o2).wf = true
  t2 : c.t2.size ≤ maxLen
  s2 : c.s2.size ≤ maxLen
  key : c.key.size ≤ maxLen
  base : (Lit.int .i64 c.base).wf = true
  up : (Lit.int .i64 c.up).wf = true
  ask : c.ask.size ≤ maxLen
abbrev chgD {H : Type} (c : Chg) : DataW H := .agg [.agg [.lit (.int .i64 c.i1), .lit (.int .i64 c.o1), .lit (.string c.t1.data.toList), .lit (.string c.s1.data.toList)], .agg [.lit (.int .i64 c.i2), .lit (.int .i64 c.o2), .lit (.string c.t2.data.toList), .lit (.string c.s2.data.toList)], .lit (.string c.key.data.toList), .lit (.int .i64 c.base), .lit (.int .i64 c.up), .lit (.bool c.diffed), .lit (.bool c.shown), .lit (.string c.ask.data.toList)]
theorem array14 {α : Type} {cs : Array α} (h : cs.size = 14) : ∃ c0 c1 c2 c3 c4 c5 c6 c7 c8 c9 c10 c11 c12 c13, cs = #[c0, c1, c2, c3, c4, c5, c6, c7, c8, c9, c10, c11, c12, c13] := by
  obtain ⟨l⟩ := cs
  match l, h with
  | [c0, c1, c2, c3, c4, c5, c6, c7, c8, c9, c10, c11, c12, c13], _ => exact ⟨c0, c1, c2, c3, c4, c5, c6, c7, c8, c9, c10, c11, c12, c13, rfl⟩
section
variable {H : Type} {enc : TypeId × Value → H} {w : World} {base : Nat} {spare : Nat → Bool} {held : Bool}
set_option maxRecDepth 100000 in
theorem openNet {n : Nat} {v0 v1 v2 v3 : Value} {y : DataW H × List MemPlace} (h : DataW.trod enc Tryz.prog w base spare held n 23 [v0, v1, v2, v3] = some y) :
    ∃ i o t s, v0 = .int .i64 i ∧ v1 = .int .i64 o ∧ v2 = .string t ∧ v3 = .string s ∧ y = (.agg [.lit (.int .i64 i), .lit (.int .i64 o), .lit (.string t.data.toList), .lit (.string s.data.toList)], []) ∧ (Lit.int .i64 i).wf = true ∧ (Lit.int .i64 o).wf = true ∧ t.size ≤ maxLen ∧ s.size ≤ maxLen := by
  have hci : Tryz.prog.cellsOf 3 = 1 := by kernel_rfl
  have hcs : Tryz.prog.cellsOf 9 = 1 := by kernel_rfl
  obtain ⟨y0, y1, y2, y3, m, hx, _, h0, h1, h2, h3⟩ := trod_struct4 Tryz.underlying23 h
  simp [hci, hcs] at h0 h1 h2 h3
  obtain ⟨i, e0, rfl, wi⟩ := DataW.trod_int Tryz.underlying3 h0
  obtain ⟨o, e1, rfl, wo⟩ := DataW.trod_int Tryz.underlying3 h1
  obtain ⟨t, e2, rfl, wt⟩ := DataW.trod_string Tryz.underlying9 h2
  obtain ⟨s, e3, rfl, ws⟩ := DataW.trod_string Tryz.underlying9 h3
  simp only [List.cons.injEq, and_true] at e0 e1 e2 e3
  exact ⟨i, o, t, s, e0, e1, e2, e3, hx, wi, wo, wt, ws⟩
set_option maxRecDepth 100000 in
theorem openChg {r : Reach} {b0 : Nat} {v : Value} {d : DataW H} {p : List MemPlace} (hv : Value.okWide Tryz.prog w r b0 25 v) (h : DataW.Trod enc Tryz.prog w base spare held 25 v d p) :
    ∃ c : Chg, v = chgV c ∧ d = chgD c ∧ p = [] ∧ ChgWf c := by
  have hcC : Tryz.prog.cellsOf 25 = 14 := by kernel_rfl
  have hcN : Tryz.prog.cellsOf 23 = 4 := by kernel_rfl
  have hci : Tryz.prog.cellsOf 3 = 1 := by kernel_rfl
  have hcs : Tryz.prog.cellsOf 9 = 1 := by kernel_rfl
  have hcb : Tryz.prog.cellsOf 4 = 1 := by kernel_rfl
  obtain ⟨cs, rfl, hsz⟩ := okWide_struct Tryz.underlying25 hv
  obtain ⟨c0, c1, c2, c3, c4, c5, c6, c7, c8, c9, c10, c11, c12, c13, rfl⟩ := array14 (hsz.trans hcC)
  obtain ⟨fuel, hf⟩ := h
  obtain ⟨xs, m, _, hx, _, hlen, hfd⟩ := DataW.trod_struct Tryz.underlying25 hf
  match xs, hlen with
  | [y0, y1, y2, y3, y4, y5, y6, y7], _ =>
    have h0 := hfd 0 _ rfl
    have h1 := hfd 1 _ rfl
    have h2 := hfd 2 _ rfl
    have h3 := hfd 3 _ rfl
    have h4 := hfd 4 _ rfl
    have h5 := hfd 5 _ rfl
    have h6 := hfd 6 _ rfl
    have h7 := hfd 7 _ rfl
    simp [Value.cells, hcN, hci, hcs, hcb] at h0 h1 h2 h3 h4 h5 h6 h7
    obtain ⟨i1, o1, t1, s1, rfl, rfl, rfl, rfl, rfl, a1, a2, a3, a4⟩ := openNet h0
    obtain ⟨i2, o2, t2, s2, rfl, rfl, rfl, rfl, rfl, b1, b2, b3, b4⟩ := openNet h1
    obtain ⟨key, e2, rfl, k2⟩ := DataW.trod_string Tryz.underlying9 h2
    obtain ⟨ba, e3, rfl, k3⟩ := DataW.trod_int Tryz.underlying3 h3
    obtain ⟨up, e4, rfl, k4⟩ := DataW.trod_int Tryz.underlying3 h4
    obtain ⟨df, e5, rfl⟩ := DataW.trod_bool Tryz.underlying4 h5
    obtain ⟨sh, e6, rfl⟩ := DataW.trod_bool Tryz.underlying4 h6
    obtain ⟨ask, e7, rfl, k7⟩ := DataW.trod_string Tryz.underlying9 h7
    simp only [List.cons.injEq, and_true] at e2 e3 e4 e5 e6 e7
    subst e2 e3 e4 e5 e6 e7
    simp only [Prod.mk.injEq] at hx
    exact ⟨⟨i1, o1, t1, s1, i2, o2, t2, s2, key, ba, up, df, sh, ask⟩, rfl, hx.1.trans (by simp), hx.2.trans (by simp), ⟨a1, a2, a3, a4, b1, b2, b3, b4, k2, k3, k4, k7⟩⟩
set_option maxRecDepth 100000 in
theorem shutChg {c : Chg} (hw : ChgWf c) : DataW.Trod enc Tryz.prog w base spare held 25 (chgV c) (chgD c) [] := by
  have hcC : Tryz.prog.cellsOf 25 = 14 := by kernel_rfl
  have hcN : Tryz.prog.cellsOf 23 = 4 := by kernel_rfl
  have hci : Tryz.prog.cellsOf 3 = 1 := by kernel_rfl
  have hcs : Tryz.prog.cellsOf 9 = 1 := by kernel_rfl
  have hcb : Tryz.prog.cellsOf 4 = 1 := by kernel_rfl
  obtain ⟨k0, k1, k2, k3, k4, k5, k6, k7, k8, k9, k10, k11⟩ := hw
  exact ⟨3, by simp [Value.cells, DataW.trod, Tryz.underlying25, Tryz.underlying23, Tryz.underlying3, Tryz.underlying9, Tryz.underlying4, hcC, hcN, hci, hcs, hcb, k0, k1, k2, k3, k4, k5, k6, k7, k8, k9, k10, k11]⟩
set_option maxRecDepth 100000 in
/-- a row of numbers that is handed in -/
theorem openInts {r : Reach} {b0 : Nat} {v : Value} {d : DataW H} {p : List MemPlace} (hv : Value.okWide Tryz.prog w r b0 49 v) (h : DataW.Trod enc Tryz.prog w base spare held 49 v d p) :
    ∃ l : List Int, HoldsArg w v l.length (intCells l) ∧ ∀ x ∈ l, (Lit.int .i64 x).wf = true := by
  obtain ⟨a0, len, cap, rfl⟩ := okWide_slice Tryz.underlying49 hv
  obtain ⟨fuel, hf⟩ := h
  rcases open_ints Tryz.underlying49 Tryz.underlying3 (by kernel_rfl) hf with ⟨e, _⟩ | ⟨a, n, cp, zs, e, hb, hl, hm, hz, hx, hc, hw⟩
  · simp [Value.cells] at e
    obtain ⟨rfl, rfl, rfl⟩ := e
    exact ⟨[], .inl ⟨_, _, rfl, rfl⟩, by simp⟩
  · simp [Value.cells] at e
    obtain ⟨rfl, rfl, rfl⟩ := e
    have hlz : len ≤ zs.length := by rw [hz]; split <;> omega
    by_cases h0 : len = 0
    · subst h0
      exact ⟨[], .inl ⟨_, _, rfl, rfl⟩, by simp⟩
    · obtain ⟨b, off, rfl, hc'⟩ := ints_at hc (by omega)
      have hlen : (zs.take len).length = len := by rw [List.length_take]; omega
      refine ⟨zs.take len, .inr ⟨b, off, cap, by rw [hlen], ?_, by omega, hm, ?_⟩, fun x hx => hw x (List.mem_of_mem_take hx)⟩
      · have := hc' 0 (by omega)
        exact World.block_lt_of_cell? w _ this
      · intro j u hj
        have hjl : j < len := by
          have := (List.getElem?_eq_some_iff.1 hj).1
          simpa [intCells, hlen] using (by rw [intCells_length, hlen] at this; exact this)
        rw [intCells_at (by omega)] at hj
        injection hj with hj
        subst hj
        rw [hc' j (by omega)]
        simp [List.getD, hjl]
end
end Go.Proofs.YtjfmiomopfjecabGreat

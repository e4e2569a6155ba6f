/- Texts laid together: DevStat, DevDo, DevPlay, DevDone, DevWrap. -/
import Derived.Test.YtjfmiomopfjecabGreatVg
import Derived.Test.YtjfmiomopfjecabGreatVa
import Derived.Test.YtjfmiomopfjecabGreatVb
import Derived.Test.YtjfmiomopfjecabGreatVc
import Derived.Test.YtjfmiomopfjecabGreatVd
import Derived.Test.YtjfmiomopfjecabGreatVe
import Derived.Test.YtjfmiomopfjecabGreatVf
/- What a device tells of itself. -/
namespace Go.Proofs.YtjfmiomopfjecabGreat
open Go.RowKit Go.Lib

/-- what a device tells, where it is on -/
abbrev statV (F : Nat → Nat) (miss : Nat) : Value := .agg #[.bool true, .int .i64 (M.fld F 2), .int .i64 (M.servedD F), .int .i64 (M.verOf F (M.servedD F)), .int .i64 (M.verOf F (M.fld F 1)), .int .i64 (M.fld F 3), .int .i64 miss]
abbrev statNo : Value := .agg #[.bool false, .int .i64 0, .int .i64 0, .int .i64 0, .int .i64 0, .int .i64 0, .int .i64 0]
section
variable {pg num kp ph tr s0 v0 s1 v1 th : Nat} {w : World} {b : Nat} {t : TypeId} {key : ByteArray} {F : Nat → Nat} {on : Bool} {wait next age : Nat}
set_option maxRecDepth 10000 in
theorem devStatus_off (h : DevAt w b t key F false wait next age) :
    Calls Tryz.prog 61 #[.pointer (some ⟨b, 0, none⟩)] w fun e w' => e = .returned statNo ∧ Below w.heap.size w w' := by
  have hlt := h.lt
  have hne : ¬ b = w.heap.size := by omega
  have hc := h.onC
  clear h
  go_enter Tryz.func61, Tryz.ntmps61
  go_wp2
  refine bodyPost_ret (v := statNo) (by simp [results, Tryz.results61, go_sem]) rfl ⟨rfl, ?_⟩
  repeat (first | with_reducible exact unhide HB | with_reducible exact Below.refl _ _ | with_reducible refine bdrew ?_ | (with_reducible refine brow ?_ ?_; (focus (first | omega | (simp; done) | (simp; omega)))) | (with_reducible refine bset ?_ ?_; (focus (first | omega | (simp; done) | (simp; omega)))) | (with_reducible refine balloc ?_ ?_; (focus (first | omega | (simp; done) | (simp; omega)))) | (with_reducible refine bvia (unhide HB1) ?_ ?_; (focus (first | omega | (simp; done) | (simp; omega)))) | (with_reducible refine bvia (unhide HB2) ?_ ?_; (focus (first | omega | (simp; done) | (simp; omega)))) | (with_reducible refine bvia (unhide HB3) ?_ ?_; (focus (first | omega | (simp; done) | (simp; omega)))) | (with_reducible refine bvia (unhide HB4) ?_ ?_; (focus (first | omega | (simp; done) | (simp; omega)))) | (with_reducible refine bvia (unhide HB5) ?_ ?_; (focus (first | omega | (simp; done) | (simp; omega)))) | (with_reducible refine bvia (unhide HB6) ?_ ?_; (focus (first | omega | (simp; done) | (simp; omega)))))
theorem second_block (w : World) (o1 o2 : Obj) : ((w.alloc o1).alloc o2).heap[w.heap.size + 1]? = some o2 := last_block _ _ (by simp)
theorem slot_ver (F : Nat → Nat) {i : Nat} (hi : i ≤ 1) : pickN i (M.verOf F 0) (M.verOf F 1) = M.verOf F i := by
  have hc : i = 0 ∨ i = 1 := by omega
  rcases hc with rfl | rfl <;> rfl
set_option maxRecDepth 10000 in
set_option maxHeartbeats 4000000 in
theorem rawStatus_idle (h : DevAt w b t key F true wait next age) (hk : kp ≤ 1) (hp : ph ≠ 1)
    (hrec : ∀ (W : World) (_ : DevAt W b t key F true wait next age), Calls Tryz.prog 80 #[.pointer (some ⟨b, 0, none⟩)] W fun e w' => e = .returned (recV pg num kp ph tr s0 v0 s1 v1 th) ∧ Below W.heap.size W w') :
    Calls Tryz.prog 61 #[.pointer (some ⟨b, 0, none⟩)] w fun e w' => e = .returned (.agg #[.bool true, .int .i64 ph, .int .i64 (servedN ph kp), .int .i64 (pickN (servedN ph kp) v0 v1), .int .i64 (pickN kp v0 v1), .int .i64 tr, .int .i64 0]) ∧ Below w.heap.size w w' := by
  have hlt := h.lt
  have hne : ¬ b = w.heap.size := by omega
  have hc := h.onC
  have HD := hide h
  have HR := hide hrec
  have HSV := hide (fun W => recServed_d pg num kp ph tr s0 v0 s1 v1 th W hk)
  have HS1 := hide (fun W => recSlot_d pg num kp ph tr s0 v0 s1 v1 th (servedN ph kp) W)
  have HS2 := hide (fun W => recSlot_d pg num kp ph tr s0 v0 s1 v1 th kp W)
  have hp1 : ¬ (ph : Int) = 1 := by omega
  clear h hrec
  generalize servedN ph kp = svd at *
  generalize pickN svd s0 s1 = sz at *
  generalize pickN svd v0 v1 = sv at *
  generalize pickN kp s0 s1 = kz at *
  generalize pickN kp v0 v1 = kv at *
  go_enter Tryz.func61, Tryz.ntmps61
  go_wp2_with fail
  refine (unhide HR _ ((unhide HD).alloc _)).mono ?_
  rintro e w1 ⟨rfl, hb1⟩
  obtain ⟨k0, hs1, hb⟩ := blk1 hb1
  have K0 := hide k0
  have HB1 := hide hb
  clear hb hb1 k0 hc
  go_wp2_with fail
  refine cut_code (fun a W => ∃ (g : Nat) (x16 x17 x18 x19 : Value), a = ⟨#[.pointer (some ⟨b, 0, none⟩), undef, .pointer (some ⟨w.heap.size, 0, none⟩), .pointer (some ⟨w1.heap.size, 0, none⟩), .pointer (some ⟨g, 0, none⟩), undef, undef, undef, .pointer (some ⟨b, 0, none⟩), .pointer (some ⟨b, 0, none⟩), .pointer (some ⟨b, 369, none⟩), .bool true, .bool false, undef, .pointer (some ⟨b, 0, none⟩), recV pg num kp ph tr s0 v0 s1 v1 th, x16, x17, x18, x19, undef, undef, undef, undef, undef, undef, undef, undef, undef, undef, undef, undef, undef, undef, undef, undef, undef, undef, undef, undef, undef, undef, undef, undef, undef, undef], []⟩ ∧ W.heap[w1.heap.size]? = some (.cells #[.int .i64 pg, .int .i64 num, .int .i64 kp, .int .i64 ph, .int .i64 tr, .int .i64 s0, .int .i64 v0, .int .i64 s1, .int .i64 v1, .int .i64 th] 133 (0, 0)) ∧ W.heap[g]? = some (.cells #[.int .i64 sz, .int .i64 sv] 131 (0, 0)) ∧ W.heap[w.heap.size]? = some (.cells #[.bool false, .int .i64 0, .int .i64 0, .int .i64 0, .int .i64 0, .int .i64 0, .int .i64 0] 52 (0, 0)) ∧ w1.heap.size < g ∧ Below w.heap.size w W) ?_ ?_
  · have rule : ∀ (X : World) (o : Nat), X.heap[w1.heap.size]? = some (.cells #[.int .i64 pg, .int .i64 num, .int .i64 kp, .int .i64 ph, .int .i64 tr, .int .i64 s0, .int .i64 v0, .int .i64 s1, .int .i64 v1, .int .i64 th] 133 (0, 0)) → X.cell? ⟨w1.heap.size, o, none⟩ = (#[.int .i64 pg, .int .i64 num, .int .i64 kp, .int .i64 ph, .int .i64 tr, .int .i64 s0, .int .i64 v0, .int .i64 s1, .int .i64 v1, .int .i64 th] : Array Value)[o]? := fun X o h => cell_in h o
    go_region_held3 (fun X => X.heap[w1.heap.size]? = some (.cells #[.int .i64 pg, .int .i64 num, .int .i64 kp, .int .i64 ph, .int .i64 tr, .int .i64 s0, .int .i64 v0, .int .i64 s1, .int .i64 v1, .int .i64 th] 133 (0, 0))) ((repeat (first | with_reducible exact hR2 | with_reducible exact hR1 | with_reducible exact last_block _ _ rfl | with_reducible refine ablk ?_ | with_reducible refine drew_block ?_ | (with_reducible refine sblk ?_ ?_; (focus omega))))) ((first | (go_at_call 82; refine (unhide HSV _).mono ?_; rintro e wA ⟨rfl, hbA⟩; have hR1 : wA.heap[w1.heap.size]? = some (.cells #[.int .i64 pg, .int .i64 num, .int .i64 kp, .int .i64 ph, .int .i64 tr, .int .i64 s0, .int .i64 v0, .int .i64 s1, .int .i64 v1, .int .i64 th] 133 (0, 0)) := kept_block hbA (by (repeat (first | with_reducible exact hR2 | with_reducible exact hR1 | with_reducible exact last_block _ _ rfl | with_reducible refine ablk ?_ | with_reducible refine drew_block ?_ | (with_reducible refine sblk ?_ ?_; (focus omega))))); have hsA := hbA.size; (try simp at hsA); have hZ1 : wA.heap[w.heap.size]? = some (.cells #[.bool false, .int .i64 0, .int .i64 0, .int .i64 0, .int .i64 0, .int .i64 0, .int .i64 0] 52 (0, 0)) := kept_block hbA (by repeat (first | with_reducible exact unhide K0 | with_reducible refine ablk ?_ | with_reducible refine drew_block ?_)); (try (have kG1 := kept_block hbA (drew_block (second_block _ _ _))))) | (go_at_call 81; refine (unhide HS1 _).mono ?_; rintro e wB ⟨rfl, hbB⟩; have hR2 : wB.heap[w1.heap.size]? = some (.cells #[.int .i64 pg, .int .i64 num, .int .i64 kp, .int .i64 ph, .int .i64 tr, .int .i64 s0, .int .i64 v0, .int .i64 s1, .int .i64 v1, .int .i64 th] 133 (0, 0)) := kept_block hbB (by (repeat (first | with_reducible exact hR2 | with_reducible exact hR1 | with_reducible exact last_block _ _ rfl | with_reducible refine ablk ?_ | with_reducible refine drew_block ?_ | (with_reducible refine sblk ?_ ?_; (focus omega))))); have hsB := hbB.size; (try simp at hsB); have hZ2 : wB.heap[w.heap.size]? = some (.cells #[.bool false, .int .i64 0, .int .i64 0, .int .i64 0, .int .i64 0, .int .i64 0, .int .i64 0] 52 (0, 0)) := kept_block hbB (by repeat (first | with_reducible exact hZ1 | with_reducible refine ablk ?_)); (try (have kG := kept_block hbB kG1; have hxG := (block_facts kG).1; have hfG := (block_facts kG).2)); (try (have kG := kept_block hbB (last_block _ _ rfl); have hxG := (block_facts kG).1; have hfG := (block_facts kG).2)))))
    all_goals
      have HB4 := hide hbA
      have HB5 := hide hbB
      refine ⟨rfl, _, _, _, _, _, rfl, ?_, ?_, ?_, ?_, ?_⟩
      · (repeat (first | with_reducible exact hR2 | with_reducible exact hR1 | with_reducible exact last_block _ _ rfl | with_reducible refine ablk ?_ | with_reducible refine drew_block ?_ | (with_reducible refine sblk ?_ ?_; (focus omega))))
      · first | (with_reducible exact last_block _ _ rfl) | exact (setCell_in (setCell_in kG 0 _) 1 _).trans rfl
      · repeat (first | with_reducible exact hZ2 | with_reducible refine ablk ?_ | (with_reducible refine sblk ?_ ?_; (focus omega)))
      · omega
      · repeat (first | with_reducible exact unhide HB | with_reducible exact Below.refl _ _ | with_reducible refine bdrew ?_ | (with_reducible refine brow ?_ ?_; (focus (first | omega | (simp; done) | (simp; omega)))) | (with_reducible refine bset ?_ ?_; (focus (first | omega | (simp; done) | (simp; omega)))) | (with_reducible refine balloc ?_ ?_; (focus (first | omega | (simp; done) | (simp; omega)))) | (with_reducible refine bvia (unhide HB1) ?_ ?_; (focus (first | omega | (simp; done) | (simp; omega)))) | (with_reducible refine bvia (unhide HB2) ?_ ?_; (focus (first | omega | (simp; done) | (simp; omega)))) | (with_reducible refine bvia (unhide HB3) ?_ ?_; (focus (first | omega | (simp; done) | (simp; omega)))) | (with_reducible refine bvia (unhide HB4) ?_ ?_; (focus (first | omega | (simp; done) | (simp; omega)))) | (with_reducible refine bvia (unhide HB5) ?_ ?_; (focus (first | omega | (simp; done) | (simp; omega)))) | (with_reducible refine bvia (unhide HB6) ?_ ?_; (focus (first | omega | (simp; done) | (simp; omega)))))
  · rintro _ W4 ⟨g, x16, x17, x18, x19, rfl, q1, q2, q3, hg, hbW⟩
    have hgl : g < W4.heap.size := (Array.getElem?_eq_some_iff.1 q2).1
    obtain ⟨hxr, hfr⟩ := block_facts q1
    have Q1 := hide q1
    have Q2 := hide q2
    have Q3 := hide q3
    have HBW := hide hbW
    clear q1 q2 q3 hbW HB1 K0
    go_wp2_with fail
    refine (unhide HS2 _).mono ?_
    rintro e w5 ⟨rfl, hb5⟩
    have P1 := hide (kept_block hb5 (unhide Q1))
    have P2 := hide (kept_block hb5 (unhide Q2))
    have P3 := hide (kept_block hb5 (unhide Q3))
    have hs5 := hb5.size
    have HB0 : Hid (Below w.heap.size w w5) := bvia hb5 (by omega) (unhide HBW)
    clear hb5 Q1 Q2 Q3 HBW hxr hfr HS1 HS2
    go_wp2_with fail
    refine cut_code (fun a W => ∃ (g6 : Nat) (y20 y21 y22 y23 y24 y25 y26 y27 y28 y29 y30 y31 y32 y33 y34 : Value), a = ⟨#[.pointer (some ⟨b, 0, none⟩), undef, .pointer (some ⟨w.heap.size, 0, none⟩), .pointer (some ⟨w1.heap.size, 0, none⟩), .pointer (some ⟨g, 0, none⟩), .pointer (some ⟨w5.heap.size, 0, none⟩), .pointer (some ⟨g6, 0, none⟩), undef, .pointer (some ⟨b, 0, none⟩), .pointer (some ⟨b, 0, none⟩), .pointer (some ⟨b, 369, none⟩), .bool true, .bool false, undef, .pointer (some ⟨b, 0, none⟩), recV pg num kp ph tr s0 v0 s1 v1 th, x16, x17, x18, x19, y20, y21, y22, y23, y24, y25, y26, y27, y28, y29, y30, y31, y32, y33, y34, undef, undef, undef, undef, undef, undef, undef, undef, undef, undef, undef], []⟩ ∧ W.heap[w1.heap.size]? = some (.cells #[.int .i64 pg, .int .i64 num, .int .i64 kp, .int .i64 ph, .int .i64 tr, .int .i64 s0, .int .i64 v0, .int .i64 s1, .int .i64 v1, .int .i64 th] 133 (0, 0)) ∧ W.heap[g6]? = some (.cells #[.bool true, .int .i64 ph, .int .i64 svd, .int .i64 sv, .int .i64 kv, .int .i64 tr, .int .i64 0] 52 (0, 0)) ∧ W.heap[w.heap.size]? = some (.cells #[.bool false, .int .i64 0, .int .i64 0, .int .i64 0, .int .i64 0, .int .i64 0, .int .i64 0] 52 (0, 0)) ∧ w5.heap.size < g6 ∧ Below w.heap.size w W) ?_ ?_
    · have rule1 : ∀ (X : World) (o : Nat), X.heap[w1.heap.size]? = some (.cells #[.int .i64 pg, .int .i64 num, .int .i64 kp, .int .i64 ph, .int .i64 tr, .int .i64 s0, .int .i64 v0, .int .i64 s1, .int .i64 v1, .int .i64 th] 133 (0, 0)) → X.cell? ⟨w1.heap.size, o, none⟩ = (#[.int .i64 pg, .int .i64 num, .int .i64 kp, .int .i64 ph, .int .i64 tr, .int .i64 s0, .int .i64 v0, .int .i64 s1, .int .i64 v1, .int .i64 th] : Array Value)[o]? := fun X o h => cell_in h o
      have rule2 : ∀ (X : World) (o : Nat), X.heap[g]? = some (.cells #[.int .i64 sz, .int .i64 sv] 131 (0, 0)) → X.cell? ⟨g, o, none⟩ = (#[.int .i64 sz, .int .i64 sv] : Array Value)[o]? := fun X o h => cell_in h o
      have rule3 : ∀ (X : World) (o : Nat), X.heap[w5.heap.size]? = some (.cells #[.int .i64 kz, .int .i64 kv] 131 (0, 0)) → X.cell? ⟨w5.heap.size, o, none⟩ = (#[.int .i64 kz, .int .i64 kv] : Array Value)[o]? := fun X o h => cell_in h o
      go_region_held3 (fun X => X.heap[w1.heap.size]? = some (.cells #[.int .i64 pg, .int .i64 num, .int .i64 kp, .int .i64 ph, .int .i64 tr, .int .i64 s0, .int .i64 v0, .int .i64 s1, .int .i64 v1, .int .i64 th] 133 (0, 0)) ∧ X.heap[g]? = some (.cells #[.int .i64 sz, .int .i64 sv] 131 (0, 0)) ∧ X.heap[w5.heap.size]? = some (.cells #[.int .i64 kz, .int .i64 kv] 131 (0, 0))) (refine ⟨?_, ?_, ?_⟩ <;> (repeat (first | with_reducible exact hP1 | with_reducible exact hP2 | with_reducible exact hP3 | with_reducible exact unhide P1 | with_reducible exact unhide P2 | with_reducible exact last_block _ _ rfl | with_reducible refine ablk ?_ | with_reducible refine drew_block ?_ | (with_reducible refine sblk ?_ ?_; (focus omega))))) ((go_at_call 82; refine (unhide HSV _).mono ?_; rintro e wP ⟨rfl, hbP⟩; have hP1 : wP.heap[w1.heap.size]? = some (.cells #[.int .i64 pg, .int .i64 num, .int .i64 kp, .int .i64 ph, .int .i64 tr, .int .i64 s0, .int .i64 v0, .int .i64 s1, .int .i64 v1, .int .i64 th] 133 (0, 0)) := kept_block hbP (by repeat (first | with_reducible exact unhide P1 | with_reducible refine ablk ?_ | with_reducible refine drew_block ?_)); have hP2 : wP.heap[g]? = some (.cells #[.int .i64 sz, .int .i64 sv] 131 (0, 0)) := kept_block hbP (by repeat (first | with_reducible exact unhide P2 | with_reducible refine ablk ?_ | with_reducible refine drew_block ?_)); have hP3 : wP.heap[w5.heap.size]? = some (.cells #[.int .i64 kz, .int .i64 kv] 131 (0, 0)) := kept_block hbP (by repeat (first | with_reducible exact last_block _ _ rfl | with_reducible refine ablk ?_ | with_reducible refine drew_block ?_)); have hZP : wP.heap[w.heap.size]? = some (.cells #[.bool false, .int .i64 0, .int .i64 0, .int .i64 0, .int .i64 0, .int .i64 0, .int .i64 0] 52 (0, 0)) := kept_block hbP (by repeat (first | with_reducible exact unhide P3 | with_reducible refine ablk ?_ | with_reducible refine drew_block ?_)); have hsP := hbP.size; (try simp at hsP); (try (have kG := kept_block hbP (drew_block (second_block _ _ _)); have hxG := (block_facts kG).1; have hfG := (block_facts kG).2))))
      all_goals
        have HB4 := hide hbP
        have HB := HB0
        refine ⟨rfl, _, _, _, _, _, _, _, _, _, _, _, _, _, _, _, _, rfl, ?_, ?_, ?_, ?_, ?_⟩
        · repeat (first | with_reducible exact hP1 | with_reducible refine ablk ?_ | (with_reducible refine sblk ?_ ?_; (focus omega)))
        · first | (with_reducible exact last_block _ _ rfl) | exact (setCell_in (setCell_in (setCell_in (setCell_in (setCell_in (setCell_in (setCell_in kG 0 _) 1 _) 2 _) 3 _) 4 _) 5 _) 6 _).trans rfl
        · repeat (first | with_reducible exact hZP | with_reducible refine ablk ?_ | (with_reducible refine sblk ?_ ?_; (focus omega)))
        · omega
        · repeat (first | with_reducible exact unhide HB | with_reducible exact Below.refl _ _ | with_reducible refine bdrew ?_ | (with_reducible refine brow ?_ ?_; (focus (first | omega | (simp; done) | (simp; omega)))) | (with_reducible refine bset ?_ ?_; (focus (first | omega | (simp; done) | (simp; omega)))) | (with_reducible refine balloc ?_ ?_; (focus (first | omega | (simp; done) | (simp; omega)))) | (with_reducible refine bvia (unhide HB1) ?_ ?_; (focus (first | omega | (simp; done) | (simp; omega)))) | (with_reducible refine bvia (unhide HB2) ?_ ?_; (focus (first | omega | (simp; done) | (simp; omega)))) | (with_reducible refine bvia (unhide HB3) ?_ ?_; (focus (first | omega | (simp; done) | (simp; omega)))) | (with_reducible refine bvia (unhide HB4) ?_ ?_; (focus (first | omega | (simp; done) | (simp; omega)))) | (with_reducible refine bvia (unhide HB5) ?_ ?_; (focus (first | omega | (simp; done) | (simp; omega)))) | (with_reducible refine bvia (unhide HB6) ?_ ?_; (focus (first | omega | (simp; done) | (simp; omega)))))
    · rintro _ W6 ⟨g6, y20, y21, y22, y23, y24, y25, y26, y27, y28, y29, y30, y31, y32, y33, y34, rfl, q1, q2, q3, hg6, hbW⟩
      obtain ⟨hxr, hfr⟩ := block_facts q1
      obtain ⟨hxs, hfs⟩ := block_facts q2
      obtain ⟨hxz, hfz⟩ := block_facts q3
      have HB := hide hbW
      have n6 : ¬ g6 = w.heap.size := by omega
      clear q1 q2 q3 hbW
      go_wp2
      refine bodyPost_ret (v := .agg #[.bool true, .int .i64 ph, .int .i64 svd, .int .i64 sv, .int .i64 kv, .int .i64 tr, .int .i64 0]) (by simp [results, Tryz.results61, go_sem, hxz]) rfl ⟨rfl, ?_⟩
      repeat (first | with_reducible exact unhide HB | with_reducible exact Below.refl _ _ | with_reducible refine bdrew ?_ | (with_reducible refine brow ?_ ?_; (focus (first | omega | (simp; done) | (simp; omega)))) | (with_reducible refine bset ?_ ?_; (focus (first | omega | (simp; done) | (simp; omega)))) | (with_reducible refine balloc ?_ ?_; (focus (first | omega | (simp; done) | (simp; omega)))) | (with_reducible refine bvia (unhide HB1) ?_ ?_; (focus (first | omega | (simp; done) | (simp; omega)))) | (with_reducible refine bvia (unhide HB2) ?_ ?_; (focus (first | omega | (simp; done) | (simp; omega)))) | (with_reducible refine bvia (unhide HB3) ?_ ?_; (focus (first | omega | (simp; done) | (simp; omega)))) | (with_reducible refine bvia (unhide HB4) ?_ ?_; (focus (first | omega | (simp; done) | (simp; omega)))) | (with_reducible refine bvia (unhide HB5) ?_ ?_; (focus (first | omega | (simp; done) | (simp; omega)))) | (with_reducible refine bvia (unhide HB6) ?_ ?_; (focus (first | omega | (simp; done) | (simp; omega)))))
set_option maxRecDepth 10000 in
set_option maxHeartbeats 4000000 in
theorem rawStatus_fetch (h : DevAt w b t key F true wait next age) (hk : kp ≤ 1) (hth : th < 256) (c : Nat) (hc6 : c ≤ 6) (a0 a2 a5 a6 : Int) (a4 : Nat) (ha4 : a4 ≤ 96) (hc4 : M.chunksN a4 = c) (x1 : Bool) (x2 x3 : ByteArray)
    (hman : ∀ (W : World) (_ : DevAt W b t key F true wait next age), Calls Tryz.prog 83 #[.pointer (some ⟨b, 0, none⟩)] W fun e w' => ∃ ao cap, e = .returned (manV a0 a2 a4 a5 a6 (.slice ao c cap) x1 x2 x3) ∧ Below W.heap.size W w')
    (hrec : ∀ (W : World) (_ : DevAt W b t key F true wait next age), Calls Tryz.prog 80 #[.pointer (some ⟨b, 0, none⟩)] W fun e w' => e = .returned (recV pg num kp 1 tr s0 v0 s1 v1 th) ∧ Below W.heap.size W w') :
    Calls Tryz.prog 61 #[.pointer (some ⟨b, 0, none⟩)] w fun e w' => e = .returned (.agg #[.bool true, .int .i64 1, .int .i64 (servedN 1 kp), .int .i64 (pickN (servedN 1 kp) v0 v1), .int .i64 (pickN kp v0 v1), .int .i64 tr, .int .i64 (missN th c)]) ∧ Below w.heap.size w w' := by
  have hlt := h.lt
  have hne : ¬ b = w.heap.size := by omega
  have hc := h.onC
  have HD := hide h
  have HR := hide hrec
  have HSV := hide (fun W => recServed_d pg num kp 1 tr s0 v0 s1 v1 th W hk)
  have HS1 := hide (fun W => recSlot_d pg num kp 1 tr s0 v0 s1 v1 th (servedN 1 kp) W)
  have HS2 := hide (fun W => recSlot_d pg num kp 1 tr s0 v0 s1 v1 th kp W)
  have HM := hide hman
  have HCH := hide (fun (W : World) (v : Value) => manChunks_any a0 a2 a6 a5 a4 v x1 x2 x3 W (by omega))
  rw [hc4] at HCH
  have HMI := hide (fun W => recMissing_any pg num kp 1 tr s0 v0 s1 v1 th c W hth hc6)
  clear h hrec hman
  generalize missN th c = mi at *
  generalize servedN 1 kp = svd at *
  generalize pickN svd s0 s1 = sz at *
  generalize pickN svd v0 v1 = sv at *
  generalize pickN kp s0 s1 = kz at *
  generalize pickN kp v0 v1 = kv at *
  go_enter Tryz.func61, Tryz.ntmps61
  go_wp2_with fail
  refine (unhide HR _ ((unhide HD).alloc _)).mono ?_
  rintro e w1 ⟨rfl, hb1⟩
  obtain ⟨k0, hs1, hb⟩ := blk1 hb1
  have K0 := hide k0
  have HB1 := hide hb
  clear hb hb1 k0 hc
  go_wp2_with fail
  refine cut_code (fun a W => ∃ (g : Nat) (x16 x17 x18 x19 : Value), a = ⟨#[.pointer (some ⟨b, 0, none⟩), undef, .pointer (some ⟨w.heap.size, 0, none⟩), .pointer (some ⟨w1.heap.size, 0, none⟩), .pointer (some ⟨g, 0, none⟩), undef, undef, undef, .pointer (some ⟨b, 0, none⟩), .pointer (some ⟨b, 0, none⟩), .pointer (some ⟨b, 369, none⟩), .bool true, .bool false, undef, .pointer (some ⟨b, 0, none⟩), recV pg num kp 1 tr s0 v0 s1 v1 th, x16, x17, x18, x19, undef, undef, undef, undef, undef, undef, undef, undef, undef, undef, undef, undef, undef, undef, undef, undef, undef, undef, undef, undef, undef, undef, undef, undef, undef, undef], []⟩ ∧ W.heap[w1.heap.size]? = some (.cells #[.int .i64 pg, .int .i64 num, .int .i64 kp, .int .i64 1, .int .i64 tr, .int .i64 s0, .int .i64 v0, .int .i64 s1, .int .i64 v1, .int .i64 th] 133 (0, 0)) ∧ W.heap[g]? = some (.cells #[.int .i64 sz, .int .i64 sv] 131 (0, 0)) ∧ W.heap[w.heap.size]? = some (.cells #[.bool false, .int .i64 0, .int .i64 0, .int .i64 0, .int .i64 0, .int .i64 0, .int .i64 0] 52 (0, 0)) ∧ w1.heap.size < g ∧ Below w.heap.size w W) ?_ ?_
  · have rule : ∀ (X : World) (o : Nat), X.heap[w1.heap.size]? = some (.cells #[.int .i64 pg, .int .i64 num, .int .i64 kp, .int .i64 1, .int .i64 tr, .int .i64 s0, .int .i64 v0, .int .i64 s1, .int .i64 v1, .int .i64 th] 133 (0, 0)) → X.cell? ⟨w1.heap.size, o, none⟩ = (#[.int .i64 pg, .int .i64 num, .int .i64 kp, .int .i64 1, .int .i64 tr, .int .i64 s0, .int .i64 v0, .int .i64 s1, .int .i64 v1, .int .i64 th] : Array Value)[o]? := fun X o h => cell_in h o
    go_region_held3 (fun X => X.heap[w1.heap.size]? = some (.cells #[.int .i64 pg, .int .i64 num, .int .i64 kp, .int .i64 1, .int .i64 tr, .int .i64 s0, .int .i64 v0, .int .i64 s1, .int .i64 v1, .int .i64 th] 133 (0, 0))) ((repeat (first | with_reducible exact hR2 | with_reducible exact hR1 | with_reducible exact last_block _ _ rfl | with_reducible refine ablk ?_ | with_reducible refine drew_block ?_ | (with_reducible refine sblk ?_ ?_; (focus omega))))) ((first | (go_at_call 82; refine (unhide HSV _).mono ?_; rintro e wA ⟨rfl, hbA⟩; have hR1 : wA.heap[w1.heap.size]? = some (.cells #[.int .i64 pg, .int .i64 num, .int .i64 kp, .int .i64 1, .int .i64 tr, .int .i64 s0, .int .i64 v0, .int .i64 s1, .int .i64 v1, .int .i64 th] 133 (0, 0)) := kept_block hbA (by (repeat (first | with_reducible exact hR2 | with_reducible exact hR1 | with_reducible exact last_block _ _ rfl | with_reducible refine ablk ?_ | with_reducible refine drew_block ?_ | (with_reducible refine sblk ?_ ?_; (focus omega))))); have hsA := hbA.size; (try simp at hsA); have hZ1 : wA.heap[w.heap.size]? = some (.cells #[.bool false, .int .i64 0, .int .i64 0, .int .i64 0, .int .i64 0, .int .i64 0, .int .i64 0] 52 (0, 0)) := kept_block hbA (by repeat (first | with_reducible exact unhide K0 | with_reducible refine ablk ?_ | with_reducible refine drew_block ?_)); (try (have kG1 := kept_block hbA (drew_block (second_block _ _ _))))) | (go_at_call 81; refine (unhide HS1 _).mono ?_; rintro e wB ⟨rfl, hbB⟩; have hR2 : wB.heap[w1.heap.size]? = some (.cells #[.int .i64 pg, .int .i64 num, .int .i64 kp, .int .i64 1, .int .i64 tr, .int .i64 s0, .int .i64 v0, .int .i64 s1, .int .i64 v1, .int .i64 th] 133 (0, 0)) := kept_block hbB (by (repeat (first | with_reducible exact hR2 | with_reducible exact hR1 | with_reducible exact last_block _ _ rfl | with_reducible refine ablk ?_ | with_reducible refine drew_block ?_ | (with_reducible refine sblk ?_ ?_; (focus omega))))); have hsB := hbB.size; (try simp at hsB); have hZ2 : wB.heap[w.heap.size]? = some (.cells #[.bool false, .int .i64 0, .int .i64 0, .int .i64 0, .int .i64 0, .int .i64 0, .int .i64 0] 52 (0, 0)) := kept_block hbB (by repeat (first | with_reducible exact hZ1 | with_reducible refine ablk ?_)); (try (have kG := kept_block hbB kG1; have hxG := (block_facts kG).1; have hfG := (block_facts kG).2)); (try (have kG := kept_block hbB (last_block _ _ rfl); have hxG := (block_facts kG).1; have hfG := (block_facts kG).2)))))
    all_goals
      have HB4 := hide hbA
      have HB5 := hide hbB
      refine ⟨rfl, _, _, _, _, _, rfl, ?_, ?_, ?_, ?_, ?_⟩
      · (repeat (first | with_reducible exact hR2 | with_reducible exact hR1 | with_reducible exact last_block _ _ rfl | with_reducible refine ablk ?_ | with_reducible refine drew_block ?_ | (with_reducible refine sblk ?_ ?_; (focus omega))))
      · first | (with_reducible exact last_block _ _ rfl) | exact (setCell_in (setCell_in kG 0 _) 1 _).trans rfl
      · repeat (first | with_reducible exact hZ2 | with_reducible refine ablk ?_ | (with_reducible refine sblk ?_ ?_; (focus omega)))
      · omega
      · repeat (first | with_reducible exact unhide HB | with_reducible exact Below.refl _ _ | with_reducible refine bdrew ?_ | (with_reducible refine brow ?_ ?_; (focus (first | omega | (simp; done) | (simp; omega)))) | (with_reducible refine bset ?_ ?_; (focus (first | omega | (simp; done) | (simp; omega)))) | (with_reducible refine balloc ?_ ?_; (focus (first | omega | (simp; done) | (simp; omega)))) | (with_reducible refine bvia (unhide HB1) ?_ ?_; (focus (first | omega | (simp; done) | (simp; omega)))) | (with_reducible refine bvia (unhide HB2) ?_ ?_; (focus (first | omega | (simp; done) | (simp; omega)))) | (with_reducible refine bvia (unhide HB3) ?_ ?_; (focus (first | omega | (simp; done) | (simp; omega)))) | (with_reducible refine bvia (unhide HB4) ?_ ?_; (focus (first | omega | (simp; done) | (simp; omega)))) | (with_reducible refine bvia (unhide HB5) ?_ ?_; (focus (first | omega | (simp; done) | (simp; omega)))) | (with_reducible refine bvia (unhide HB6) ?_ ?_; (focus (first | omega | (simp; done) | (simp; omega)))))
  · rintro _ W4 ⟨g, x16, x17, x18, x19, rfl, q1, q2, q3, hg, hbW⟩
    have hgl : g < W4.heap.size := (Array.getElem?_eq_some_iff.1 q2).1
    obtain ⟨hxr, hfr⟩ := block_facts q1
    have Q1 := hide q1
    have Q2 := hide q2
    have Q3 := hide q3
    have HBW := hide hbW
    clear q1 q2 q3 hbW HB1 K0
    go_wp2_with fail
    refine (unhide HS2 _).mono ?_
    rintro e w5 ⟨rfl, hb5⟩
    have P1 := hide (kept_block hb5 (unhide Q1))
    have P2 := hide (kept_block hb5 (unhide Q2))
    have P3 := hide (kept_block hb5 (unhide Q3))
    have hs5 := hb5.size
    have HB0 : Hid (Below w.heap.size w w5) := bvia hb5 (by omega) (unhide HBW)
    clear hb5 Q1 Q2 Q3 HBW hxr hfr HS1 HS2
    go_wp2_with fail
    refine cut_code (fun a W => ∃ (g6 : Nat) (y20 y21 y22 y23 y24 y25 y26 y27 y28 y29 y30 y31 y32 y33 y34 : Value), a = ⟨#[.pointer (some ⟨b, 0, none⟩), undef, .pointer (some ⟨w.heap.size, 0, none⟩), .pointer (some ⟨w1.heap.size, 0, none⟩), .pointer (some ⟨g, 0, none⟩), .pointer (some ⟨w5.heap.size, 0, none⟩), .pointer (some ⟨g6, 0, none⟩), undef, .pointer (some ⟨b, 0, none⟩), .pointer (some ⟨b, 0, none⟩), .pointer (some ⟨b, 369, none⟩), .bool true, .bool false, undef, .pointer (some ⟨b, 0, none⟩), recV pg num kp 1 tr s0 v0 s1 v1 th, x16, x17, x18, x19, y20, y21, y22, y23, y24, y25, y26, y27, y28, y29, y30, y31, y32, y33, y34, undef, undef, undef, undef, undef, undef, undef, undef, undef, undef, undef], []⟩ ∧ W.heap[w1.heap.size]? = some (.cells #[.int .i64 pg, .int .i64 num, .int .i64 kp, .int .i64 1, .int .i64 tr, .int .i64 s0, .int .i64 v0, .int .i64 s1, .int .i64 v1, .int .i64 th] 133 (0, 0)) ∧ W.heap[g6]? = some (.cells #[.bool true, .int .i64 1, .int .i64 svd, .int .i64 sv, .int .i64 kv, .int .i64 tr, .int .i64 0] 52 (0, 0)) ∧ W.heap[w.heap.size]? = some (.cells #[.bool false, .int .i64 0, .int .i64 0, .int .i64 0, .int .i64 0, .int .i64 0, .int .i64 0] 52 (0, 0)) ∧ w5.heap.size < g6 ∧ Below w.heap.size w W) ?_ ?_
    · have rule1 : ∀ (X : World) (o : Nat), X.heap[w1.heap.size]? = some (.cells #[.int .i64 pg, .int .i64 num, .int .i64 kp, .int .i64 1, .int .i64 tr, .int .i64 s0, .int .i64 v0, .int .i64 s1, .int .i64 v1, .int .i64 th] 133 (0, 0)) → X.cell? ⟨w1.heap.size, o, none⟩ = (#[.int .i64 pg, .int .i64 num, .int .i64 kp, .int .i64 1, .int .i64 tr, .int .i64 s0, .int .i64 v0, .int .i64 s1, .int .i64 v1, .int .i64 th] : Array Value)[o]? := fun X o h => cell_in h o
      have rule2 : ∀ (X : World) (o : Nat), X.heap[g]? = some (.cells #[.int .i64 sz, .int .i64 sv] 131 (0, 0)) → X.cell? ⟨g, o, none⟩ = (#[.int .i64 sz, .int .i64 sv] : Array Value)[o]? := fun X o h => cell_in h o
      have rule3 : ∀ (X : World) (o : Nat), X.heap[w5.heap.size]? = some (.cells #[.int .i64 kz, .int .i64 kv] 131 (0, 0)) → X.cell? ⟨w5.heap.size, o, none⟩ = (#[.int .i64 kz, .int .i64 kv] : Array Value)[o]? := fun X o h => cell_in h o
      go_region_held3 (fun X => X.heap[w1.heap.size]? = some (.cells #[.int .i64 pg, .int .i64 num, .int .i64 kp, .int .i64 1, .int .i64 tr, .int .i64 s0, .int .i64 v0, .int .i64 s1, .int .i64 v1, .int .i64 th] 133 (0, 0)) ∧ X.heap[g]? = some (.cells #[.int .i64 sz, .int .i64 sv] 131 (0, 0)) ∧ X.heap[w5.heap.size]? = some (.cells #[.int .i64 kz, .int .i64 kv] 131 (0, 0))) (refine ⟨?_, ?_, ?_⟩ <;> (repeat (first | with_reducible exact hP1 | with_reducible exact hP2 | with_reducible exact hP3 | with_reducible exact unhide P1 | with_reducible exact unhide P2 | with_reducible exact last_block _ _ rfl | with_reducible refine ablk ?_ | with_reducible refine drew_block ?_ | (with_reducible refine sblk ?_ ?_; (focus omega))))) ((go_at_call 82; refine (unhide HSV _).mono ?_; rintro e wP ⟨rfl, hbP⟩; have hP1 : wP.heap[w1.heap.size]? = some (.cells #[.int .i64 pg, .int .i64 num, .int .i64 kp, .int .i64 1, .int .i64 tr, .int .i64 s0, .int .i64 v0, .int .i64 s1, .int .i64 v1, .int .i64 th] 133 (0, 0)) := kept_block hbP (by repeat (first | with_reducible exact unhide P1 | with_reducible refine ablk ?_ | with_reducible refine drew_block ?_)); have hP2 : wP.heap[g]? = some (.cells #[.int .i64 sz, .int .i64 sv] 131 (0, 0)) := kept_block hbP (by repeat (first | with_reducible exact unhide P2 | with_reducible refine ablk ?_ | with_reducible refine drew_block ?_)); have hP3 : wP.heap[w5.heap.size]? = some (.cells #[.int .i64 kz, .int .i64 kv] 131 (0, 0)) := kept_block hbP (by repeat (first | with_reducible exact last_block _ _ rfl | with_reducible refine ablk ?_ | with_reducible refine drew_block ?_)); have hZP : wP.heap[w.heap.size]? = some (.cells #[.bool false, .int .i64 0, .int .i64 0, .int .i64 0, .int .i64 0, .int .i64 0, .int .i64 0] 52 (0, 0)) := kept_block hbP (by repeat (first | with_reducible exact unhide P3 | with_reducible refine ablk ?_ | with_reducible refine drew_block ?_)); have hsP := hbP.size; (try simp at hsP); (try (have kG := kept_block hbP (drew_block (second_block _ _ _)); have hxG := (block_facts kG).1; have hfG := (block_facts kG).2))))
      all_goals
        have HB4 := hide hbP
        have HB := HB0
        refine ⟨rfl, _, _, _, _, _, _, _, _, _, _, _, _, _, _, _, _, rfl, ?_, ?_, ?_, ?_, ?_⟩
        · repeat (first | with_reducible exact hP1 | with_reducible refine ablk ?_ | (with_reducible refine sblk ?_ ?_; (focus omega)))
        · first | (with_reducible exact last_block _ _ rfl) | exact (setCell_in (setCell_in (setCell_in (setCell_in (setCell_in (setCell_in (setCell_in kG 0 _) 1 _) 2 _) 3 _) 4 _) 5 _) 6 _).trans rfl
        · repeat (first | with_reducible exact hZP | with_reducible refine ablk ?_ | (with_reducible refine sblk ?_ ?_; (focus omega)))
        · omega
        · repeat (first | with_reducible exact unhide HB | with_reducible exact Below.refl _ _ | with_reducible refine bdrew ?_ | (with_reducible refine brow ?_ ?_; (focus (first | omega | (simp; done) | (simp; omega)))) | (with_reducible refine bset ?_ ?_; (focus (first | omega | (simp; done) | (simp; omega)))) | (with_reducible refine balloc ?_ ?_; (focus (first | omega | (simp; done) | (simp; omega)))) | (with_reducible refine bvia (unhide HB1) ?_ ?_; (focus (first | omega | (simp; done) | (simp; omega)))) | (with_reducible refine bvia (unhide HB2) ?_ ?_; (focus (first | omega | (simp; done) | (simp; omega)))) | (with_reducible refine bvia (unhide HB3) ?_ ?_; (focus (first | omega | (simp; done) | (simp; omega)))) | (with_reducible refine bvia (unhide HB4) ?_ ?_; (focus (first | omega | (simp; done) | (simp; omega)))) | (with_reducible refine bvia (unhide HB5) ?_ ?_; (focus (first | omega | (simp; done) | (simp; omega)))) | (with_reducible refine bvia (unhide HB6) ?_ ?_; (focus (first | omega | (simp; done) | (simp; omega)))))
    · rintro _ W6 ⟨g6, y20, y21, y22, y23, y24, y25, y26, y27, y28, y29, y30, y31, y32, y33, y34, rfl, q1, q2, q3, hg6, hbW⟩
      have HD6 := hide ((unhide HD).mono hbW hlt)
      have hg6l : g6 < W6.heap.size := (Array.getElem?_eq_some_iff.1 q2).1
      obtain ⟨hxr, hfr⟩ := block_facts q1
      have Q1 := hide q1
      have Q2 := hide q2
      have Q3 := hide q3
      have HB := hide hbW
      clear q1 q2 q3 hbW HB0 P1 P2 P3 HSV
      go_wp2_with fail
      refine (unhide HM _ (unhide HD6)).mono ?_
      rintro e w7 ⟨ao, cap, rfl, hb7⟩
      have P1 := hide (kept_block hb7 (unhide Q1))
      have P2 := hide (kept_block hb7 (unhide Q2))
      have P3 := hide (kept_block hb7 (unhide Q3))
      have hs7 := hb7.size
      have HB7 : Hid (Below w.heap.size w w7) := bvia hb7 (by omega) (unhide HB)
      clear hb7 Q1 Q2 Q3 HB hxr hfr HD6
      go_wp2_with fail
      have rule1 : ∀ (X : World) (o : Nat), X.heap[w1.heap.size]? = some (.cells #[.int .i64 pg, .int .i64 num, .int .i64 kp, .int .i64 1, .int .i64 tr, .int .i64 s0, .int .i64 v0, .int .i64 s1, .int .i64 v1, .int .i64 th] 133 (0, 0)) → X.cell? ⟨w1.heap.size, o, none⟩ = (#[.int .i64 pg, .int .i64 num, .int .i64 kp, .int .i64 1, .int .i64 tr, .int .i64 s0, .int .i64 v0, .int .i64 s1, .int .i64 v1, .int .i64 th] : Array Value)[o]? := fun X o h => cell_in h o
      have rule2 : ∀ (X : World) (o : Nat), X.heap[w7.heap.size]? = some (.cells (manC a0 a2 a4 a5 a6 (.slice ao c cap) x1 x2 x3) 143 (0, 0)) → X.cell? ⟨w7.heap.size, o, none⟩ = (manC a0 a2 a4 a5 a6 (.slice ao c cap) x1 x2 x3)[o]? := fun X o h => cell_in h o
      go_region_held3 (fun X => X.heap[w1.heap.size]? = some (.cells #[.int .i64 pg, .int .i64 num, .int .i64 kp, .int .i64 1, .int .i64 tr, .int .i64 s0, .int .i64 v0, .int .i64 s1, .int .i64 v1, .int .i64 th] 133 (0, 0)) ∧ X.heap[w7.heap.size]? = some (.cells (manC a0 a2 a4 a5 a6 (.slice ao c cap) x1 x2 x3) 143 (0, 0))) (refine ⟨?_, ?_⟩ <;> (repeat (first | with_reducible exact hB1 | with_reducible exact hB2 | with_reducible exact hA1 | with_reducible exact hA2 | with_reducible exact unhide P1 | with_reducible exact last_block _ _ rfl | with_reducible refine ablk ?_ | with_reducible refine drew_block ?_ | (with_reducible refine sblk ?_ ?_; (focus omega))))) ((first | (go_at_call 85; refine (unhide HCH _ _).mono ?_; rintro e wA ⟨rfl, hbA⟩; have hA1 := kept_block hbA (drew_block (alloc_block (unhide P1) _)); have hA2 := kept_block hbA (drew_block (last_block _ _ rfl)); have hsA := hbA.size; simp at hsA) | (go_at_call 84; refine (unhide HMI _).mono ?_; rintro e wB ⟨rfl, hbB⟩; have hB1 := kept_block hbB hA1; have hB2 := kept_block hbB hA2; have hsB := hbB.size; have kG := kept_block hbB (kept_block hbA (drew_block (alloc_block (unhide P2) _))); have hxG := (block_facts kG).1; have hfG := (block_facts kG).2)))
      obtain ⟨hxz, hfz⟩ := block_facts (kept_block hbB (kept_block hbA (drew_block (alloc_block (unhide P3) _))))
      have HB4 := hide hbA
      have HB5 := hide hbB
      have HB := HB7
      have n6 : ¬ g6 = w.heap.size := by omega
      have n7 : ¬ w.heap.size = g6 := by omega
      clear rule1 rule2 hA1 hA2 hB1 hB2 hbA hbB kG HB7
      go_wp2
      refine bodyPost_ret (v := .agg #[.bool true, .int .i64 1, .int .i64 svd, .int .i64 sv, .int .i64 kv, .int .i64 tr, .int .i64 mi]) (by simp [results, Tryz.results61, go_sem, hxz]) rfl ⟨rfl, ?_⟩
      repeat (first | with_reducible exact unhide HB | with_reducible exact Below.refl _ _ | with_reducible refine bdrew ?_ | (with_reducible refine brow ?_ ?_; (focus (first | omega | (simp; done) | (simp; omega)))) | (with_reducible refine bset ?_ ?_; (focus (first | omega | (simp; done) | (simp; omega)))) | (with_reducible refine balloc ?_ ?_; (focus (first | omega | (simp; done) | (simp; omega)))) | (with_reducible refine bvia (unhide HB1) ?_ ?_; (focus (first | omega | (simp; done) | (simp; omega)))) | (with_reducible refine bvia (unhide HB2) ?_ ?_; (focus (first | omega | (simp; done) | (simp; omega)))) | (with_reducible refine bvia (unhide HB3) ?_ ?_; (focus (first | omega | (simp; done) | (simp; omega)))) | (with_reducible refine bvia (unhide HB4) ?_ ?_; (focus (first | omega | (simp; done) | (simp; omega)))) | (with_reducible refine bvia (unhide HB5) ?_ ?_; (focus (first | omega | (simp; done) | (simp; omega)))) | (with_reducible refine bvia (unhide HB6) ?_ ?_; (focus (first | omega | (simp; done) | (simp; omega)))))
end
theorem stat_on {w : World} {b : Nat} {t : TypeId} {d : M.Dev} (hI : M.Inv' d) {wait next age : Nat} (h : DevAt w b t d.key d.F true wait next age) :
    Calls Tryz.prog 61 #[.pointer (some ⟨b, 0, none⟩)] w fun e w' => e = .returned (statV d.F (if M.fld d.F 2 = 1 then (M.missing d.F).length else 0)) ∧ Below w.heap.size w w' := by
  have hF := hI.2.1.bytes
  have hk := hI.2.1.kept
  obtain ⟨e1, e2⟩ := served_is hI
  have v1 := slot_ver d.F e2
  have v2 := slot_ver d.F hk
  by_cases hp : M.fld d.F 2 = 1
  · obtain ⟨at_, hat⟩ := hI.2.1.man hp
    have hsl := M.sealX_of hat
    have hle := M.sealX_le hsl
    have em : (M.missing d.F).length = missN (M.fld d.F 10) (M.chunksN (M.mf d.F 4)) := rfl
    have hr := rawStatus_fetch (pg := M.recAt d.F) (num := M.fld d.F 0) (kp := M.fld d.F 1) (tr := M.fld d.F 3) (s0 := M.fld d.F 4) (v0 := M.verOf d.F 0) (s1 := M.fld d.F 5) (v1 := M.verOf d.F 1) (th := M.fld d.F 10) h hk (hF _) (M.chunksN (M.mf d.F 4)) hle.2.2.2.2.2.2 _ _ _ _ (M.mf d.F 4) hle.2.2.2.1 rfl _ _ _
      (fun W hW => (devManifest_any hW hF hsl).mono fun _ _ ⟨ao, cap, a, _, c⟩ => ⟨ao, cap, a, c⟩)
      (fun W hW => by
        have := devRecord_any hW hF
        unfold recF at this
        rw [hp] at this
        exact this)
    rw [if_pos hp, em]
    rw [hp] at e1
    rw [e1, v1, v2] at hr
    unfold statV
    rw [hp]
    exact hr
  · have hr := rawStatus_idle (pg := M.recAt d.F) (num := M.fld d.F 0) (kp := M.fld d.F 1) (ph := M.fld d.F 2) (tr := M.fld d.F 3) (s0 := M.fld d.F 4) (v0 := M.verOf d.F 0) (s1 := M.fld d.F 5) (v1 := M.verOf d.F 1) (th := M.fld d.F 10) h hk hp (fun W hW => devRecord_any hW hF)
    rw [if_neg hp]
    rw [e1, v1, v2] at hr
    exact hr
end Go.Proofs.YtjfmiomopfjecabGreat

/- An event is played. -/
namespace Go.Proofs.YtjfmiomopfjecabGreat
open Go.RowKit Go.Lib

abbrev evV (k n : Int) (tx : ByteArray) (cut torn : Int) : Value := .agg #[.int .i64 k, .int .i64 n, .string tx, .int .i64 cut, .int .i64 torn]
abbrev repV (err ver : Int) (tx : ByteArray) (ask : Int) : Value := .agg #[.int .i64 err, .int .i64 ver, .string tx, .int .i64 ask]
section
variable {pg num kp ph tr s0 v0 s1 v1 th : Nat} {w : World} {b : Nat} {t : TypeId} {key : ByteArray} {F : Nat → Nat} {on : Bool} {wait next age : Nat}
set_option maxRecDepth 10000 in
set_option maxHeartbeats 1000000 in
theorem outcome_2 (hd : DevAt w b t key F on wait next age) (n : Int) (tx : ByteArray) (cut torn : Int)
    (hrec : ∀ (W : World) (_ : DevAt W b t key F on wait next age), Calls Tryz.prog 80 #[.pointer (some ⟨b, 0, none⟩)] W fun e w' => e = .returned (recV pg num kp ph tr s0 v0 s1 v1 th) ∧ Below W.heap.size W w')
    (on' : Bool) (wait' next' age' : Nat) (err : Int) (text : ByteArray) (ask : Int) (l : List GW)
    (hx : ∀ (W : World) (_ : DevAt W b t key F on wait next age), Calls Tryz.prog 132 #[recV pg num kp ph tr s0 v0 s1 v1 th] W fun e w' => OutRaw W on' wait' next' age' err text ask l e w') :
    Calls Tryz.prog 109 #[.pointer (some ⟨b, 0, none⟩), evV 2 n tx cut torn] w fun e w' => OutRaw w on' wait' next' age' err text ask l e w' := by
  have HD := hide hd
  have HR := hide hrec
  have HX := hide hx
  clear hd hrec hx
  go_enter Tryz.func109, Tryz.ntmps109
  go_wp2_with fail
  refine (unhide HR _ (((unhide HD).alloc _).alloc _)).mono ?_
  rintro e w1 ⟨rfl, hb1⟩
  obtain ⟨k1, k2, hs1, hb⟩ := blk2 hb1
  have HD1 := hide ((((unhide HD).alloc _).alloc _).kept hb1)
  obtain ⟨hx1, hf1⟩ := block_facts k1
  have K2 := hide k2
  have HB1 := hide hb
  clear hb hb1 k1 k2
  have l1 : w.heap.size < w1.heap.size := (by omega); have n1 : ¬ w.heap.size = w1.heap.size := (by omega)
  go_wp2_with fail
  refine (unhide HX _ ((unhide HD1).alloc _)).mono ?_
  rintro e w2 ⟨ao, cap, rfl, hown, hb2⟩
  obtain ⟨hx2, hf2⟩ := block_facts (kept_block hb2 (alloc_block (unhide K2) _))
  have HO := hide hown
  have HB2 := hide hb2
  have hs2 := hb2.size
  simp at hs2
  clear hown hb2 hx1 hf1
  generalize hn : l.length = m at *
  have HN := hide hn
  clear hn
  have l2 : w.heap.size + 1 < w2.heap.size := (by omega); have n2 : ¬ w.heap.size + 1 = w2.heap.size := (by omega)
  go_wp2
  refine bodyPost_ret (v := outV (.slice ao m cap) on' wait' next' age' err text ask) (by simp [results, Tryz.results109, go_sem, hx2]) rfl ⟨ao, cap, by rw [HN.out], ?_, ?_⟩
  · rw [HN.out]
    refine ownsRow_base (base' := w1.heap.size + 1) ?_ (by omega)
    repeat (with_reducible refine oset ?_ ?_; (focus omega))
    have := unhide HO
    simpa using this
  · repeat (first | with_reducible exact unhide HB | with_reducible exact Below.refl _ _ | with_reducible refine bdrew ?_ | (with_reducible refine brow ?_ ?_; (focus (first | omega | (simp; done) | (simp; omega)))) | (with_reducible refine bset ?_ ?_; (focus (first | omega | (simp; done) | (simp; omega)))) | (with_reducible refine balloc ?_ ?_; (focus (first | omega | (simp; done) | (simp; omega)))) | (with_reducible refine bvia (unhide HB1) ?_ ?_; (focus (first | omega | (simp; done) | (simp; omega)))) | (with_reducible refine bvia (unhide HB2) ?_ ?_; (focus (first | omega | (simp; done) | (simp; omega)))) | (with_reducible refine bvia (unhide HB3) ?_ ?_; (focus (first | omega | (simp; done) | (simp; omega)))) | (with_reducible refine bvia (unhide HB4) ?_ ?_; (focus (first | omega | (simp; done) | (simp; omega)))) | (with_reducible refine bvia (unhide HB5) ?_ ?_; (focus (first | omega | (simp; done) | (simp; omega)))) | (with_reducible refine bvia (unhide HB6) ?_ ?_; (focus (first | omega | (simp; done) | (simp; omega)))))
set_option maxRecDepth 10000 in
set_option maxHeartbeats 1000000 in
theorem outcome_3 (hd : DevAt w b t key F on wait next age) (n : Int) (tx : ByteArray) (cut torn : Int)
    (hrec : ∀ (W : World) (_ : DevAt W b t key F on wait next age), Calls Tryz.prog 80 #[.pointer (some ⟨b, 0, none⟩)] W fun e w' => e = .returned (recV pg num kp ph tr s0 v0 s1 v1 th) ∧ Below W.heap.size W w')
    (on' : Bool) (wait' next' age' : Nat) (err : Int) (text : ByteArray) (ask : Int) (l : List GW)
    (hx : ∀ (W : World) (_ : DevAt W b t key F on wait next age), Calls Tryz.prog 133 #[.pointer (some ⟨b, 0, none⟩), recV pg num kp ph tr s0 v0 s1 v1 th] W fun e w' => OutRaw W on' wait' next' age' err text ask l e w') :
    Calls Tryz.prog 109 #[.pointer (some ⟨b, 0, none⟩), evV 3 n tx cut torn] w fun e w' => OutRaw w on' wait' next' age' err text ask l e w' := by
  have HD := hide hd
  have HR := hide hrec
  have HX := hide hx
  clear hd hrec hx
  go_enter Tryz.func109, Tryz.ntmps109
  go_wp2_with fail
  refine (unhide HR _ (((unhide HD).alloc _).alloc _)).mono ?_
  rintro e w1 ⟨rfl, hb1⟩
  obtain ⟨k1, k2, hs1, hb⟩ := blk2 hb1
  have HD1 := hide ((((unhide HD).alloc _).alloc _).kept hb1)
  obtain ⟨hx1, hf1⟩ := block_facts k1
  have K2 := hide k2
  have HB1 := hide hb
  clear hb hb1 k1 k2
  have l1 : w.heap.size < w1.heap.size := (by omega); have n1 : ¬ w.heap.size = w1.heap.size := (by omega)
  go_wp2_with fail
  refine (unhide HX _ ((unhide HD1).alloc _)).mono ?_
  rintro e w2 ⟨ao, cap, rfl, hown, hb2⟩
  obtain ⟨hx2, hf2⟩ := block_facts (kept_block hb2 (alloc_block (unhide K2) _))
  have HO := hide hown
  have HB2 := hide hb2
  have hs2 := hb2.size
  simp at hs2
  clear hown hb2 hx1 hf1
  generalize hn : l.length = m at *
  have HN := hide hn
  clear hn
  have l2 : w.heap.size + 1 < w2.heap.size := (by omega); have n2 : ¬ w.heap.size + 1 = w2.heap.size := (by omega)
  go_wp2
  refine bodyPost_ret (v := outV (.slice ao m cap) on' wait' next' age' err text ask) (by simp [results, Tryz.results109, go_sem, hx2]) rfl ⟨ao, cap, by rw [HN.out], ?_, ?_⟩
  · rw [HN.out]
    refine ownsRow_base (base' := w1.heap.size + 1) ?_ (by omega)
    repeat (with_reducible refine oset ?_ ?_; (focus omega))
    have := unhide HO
    simpa using this
  · repeat (first | with_reducible exact unhide HB | with_reducible exact Below.refl _ _ | with_reducible refine bdrew ?_ | (with_reducible refine brow ?_ ?_; (focus (first | omega | (simp; done) | (simp; omega)))) | (with_reducible refine bset ?_ ?_; (focus (first | omega | (simp; done) | (simp; omega)))) | (with_reducible refine balloc ?_ ?_; (focus (first | omega | (simp; done) | (simp; omega)))) | (with_reducible refine bvia (unhide HB1) ?_ ?_; (focus (first | omega | (simp; done) | (simp; omega)))) | (with_reducible refine bvia (unhide HB2) ?_ ?_; (focus (first | omega | (simp; done) | (simp; omega)))) | (with_reducible refine bvia (unhide HB3) ?_ ?_; (focus (first | omega | (simp; done) | (simp; omega)))) | (with_reducible refine bvia (unhide HB4) ?_ ?_; (focus (first | omega | (simp; done) | (simp; omega)))) | (with_reducible refine bvia (unhide HB5) ?_ ?_; (focus (first | omega | (simp; done) | (simp; omega)))) | (with_reducible refine bvia (unhide HB6) ?_ ?_; (focus (first | omega | (simp; done) | (simp; omega)))))
set_option maxRecDepth 10000 in
set_option maxHeartbeats 1000000 in
theorem outcome_4 (hd : DevAt w b t key F on wait next age) (n : Int) (tx : ByteArray) (cut torn : Int)
    (hrec : ∀ (W : World) (_ : DevAt W b t key F on wait next age), Calls Tryz.prog 80 #[.pointer (some ⟨b, 0, none⟩)] W fun e w' => e = .returned (recV pg num kp ph tr s0 v0 s1 v1 th) ∧ Below W.heap.size W w')
    (on' : Bool) (wait' next' age' : Nat) (err : Int) (text : ByteArray) (ask : Int) (l : List GW)
    (hx : ∀ (W : World) (_ : DevAt W b t key F on wait next age), Calls Tryz.prog 134 #[.pointer (some ⟨b, 0, none⟩), recV pg num kp ph tr s0 v0 s1 v1 th, .string tx] W fun e w' => OutRaw W on' wait' next' age' err text ask l e w') :
    Calls Tryz.prog 109 #[.pointer (some ⟨b, 0, none⟩), evV 4 n tx cut torn] w fun e w' => OutRaw w on' wait' next' age' err text ask l e w' := by
  have HD := hide hd
  have HR := hide hrec
  have HX := hide hx
  clear hd hrec hx
  go_enter Tryz.func109, Tryz.ntmps109
  go_wp2_with fail
  refine (unhide HR _ (((unhide HD).alloc _).alloc _)).mono ?_
  rintro e w1 ⟨rfl, hb1⟩
  obtain ⟨k1, k2, hs1, hb⟩ := blk2 hb1
  have HD1 := hide ((((unhide HD).alloc _).alloc _).kept hb1)
  obtain ⟨hx1, hf1⟩ := block_facts k1
  have K2 := hide k2
  have HB1 := hide hb
  clear hb hb1 k1 k2
  have l1 : w.heap.size < w1.heap.size := (by omega); have n1 : ¬ w.heap.size = w1.heap.size := (by omega)
  go_wp2_with fail
  refine (unhide HX _ ((unhide HD1).alloc _)).mono ?_
  rintro e w2 ⟨ao, cap, rfl, hown, hb2⟩
  obtain ⟨hx2, hf2⟩ := block_facts (kept_block hb2 (alloc_block (unhide K2) _))
  have HO := hide hown
  have HB2 := hide hb2
  have hs2 := hb2.size
  simp at hs2
  clear hown hb2 hx1 hf1
  generalize hn : l.length = m at *
  have HN := hide hn
  clear hn
  have l2 : w.heap.size + 1 < w2.heap.size := (by omega); have n2 : ¬ w.heap.size + 1 = w2.heap.size := (by omega)
  go_wp2
  refine bodyPost_ret (v := outV (.slice ao m cap) on' wait' next' age' err text ask) (by simp [results, Tryz.results109, go_sem, hx2]) rfl ⟨ao, cap, by rw [HN.out], ?_, ?_⟩
  · rw [HN.out]
    refine ownsRow_base (base' := w1.heap.size + 1) ?_ (by omega)
    repeat (with_reducible refine oset ?_ ?_; (focus omega))
    have := unhide HO
    simpa using this
  · repeat (first | with_reducible exact unhide HB | with_reducible exact Below.refl _ _ | with_reducible refine bdrew ?_ | (with_reducible refine brow ?_ ?_; (focus (first | omega | (simp; done) | (simp; omega)))) | (with_reducible refine bset ?_ ?_; (focus (first | omega | (simp; done) | (simp; omega)))) | (with_reducible refine balloc ?_ ?_; (focus (first | omega | (simp; done) | (simp; omega)))) | (with_reducible refine bvia (unhide HB1) ?_ ?_; (focus (first | omega | (simp; done) | (simp; omega)))) | (with_reducible refine bvia (unhide HB2) ?_ ?_; (focus (first | omega | (simp; done) | (simp; omega)))) | (with_reducible refine bvia (unhide HB3) ?_ ?_; (focus (first | omega | (simp; done) | (simp; omega)))) | (with_reducible refine bvia (unhide HB4) ?_ ?_; (focus (first | omega | (simp; done) | (simp; omega)))) | (with_reducible refine bvia (unhide HB5) ?_ ?_; (focus (first | omega | (simp; done) | (simp; omega)))) | (with_reducible refine bvia (unhide HB6) ?_ ?_; (focus (first | omega | (simp; done) | (simp; omega)))))
set_option maxRecDepth 10000 in
set_option maxHeartbeats 1000000 in
theorem outcome_5 (hd : DevAt w b t key F on wait next age) (n : Int) (tx : ByteArray) (cut torn : Int)
    (hrec : ∀ (W : World) (_ : DevAt W b t key F on wait next age), Calls Tryz.prog 80 #[.pointer (some ⟨b, 0, none⟩)] W fun e w' => e = .returned (recV pg num kp ph tr s0 v0 s1 v1 th) ∧ Below W.heap.size W w')
    (on' : Bool) (wait' next' age' : Nat) (err : Int) (text : ByteArray) (ask : Int) (l : List GW)
    (hx : ∀ (W : World) (_ : DevAt W b t key F on wait next age), Calls Tryz.prog 135 #[.pointer (some ⟨b, 0, none⟩), recV pg num kp ph tr s0 v0 s1 v1 th, .string tx] W fun e w' => OutRaw W on' wait' next' age' err text ask l e w') :
    Calls Tryz.prog 109 #[.pointer (some ⟨b, 0, none⟩), evV 5 n tx cut torn] w fun e w' => OutRaw w on' wait' next' age' err text ask l e w' := by
  have HD := hide hd
  have HR := hide hrec
  have HX := hide hx
  clear hd hrec hx
  go_enter Tryz.func109, Tryz.ntmps109
  go_wp2_with fail
  refine (unhide HR _ (((unhide HD).alloc _).alloc _)).mono ?_
  rintro e w1 ⟨rfl, hb1⟩
  obtain ⟨k1, k2, hs1, hb⟩ := blk2 hb1
  have HD1 := hide ((((unhide HD).alloc _).alloc _).kept hb1)
  obtain ⟨hx1, hf1⟩ := block_facts k1
  have K2 := hide k2
  have HB1 := hide hb
  clear hb hb1 k1 k2
  have l1 : w.heap.size < w1.heap.size := (by omega); have n1 : ¬ w.heap.size = w1.heap.size := (by omega)
  go_wp2_with fail
  refine (unhide HX _ ((unhide HD1).alloc _)).mono ?_
  rintro e w2 ⟨ao, cap, rfl, hown, hb2⟩
  obtain ⟨hx2, hf2⟩ := block_facts (kept_block hb2 (alloc_block (unhide K2) _))
  have HO := hide hown
  have HB2 := hide hb2
  have hs2 := hb2.size
  simp at hs2
  clear hown hb2 hx1 hf1
  generalize hn : l.length = m at *
  have HN := hide hn
  clear hn
  have l2 : w.heap.size + 1 < w2.heap.size := (by omega); have n2 : ¬ w.heap.size + 1 = w2.heap.size := (by omega)
  go_wp2
  refine bodyPost_ret (v := outV (.slice ao m cap) on' wait' next' age' err text ask) (by simp [results, Tryz.results109, go_sem, hx2]) rfl ⟨ao, cap, by rw [HN.out], ?_, ?_⟩
  · rw [HN.out]
    refine ownsRow_base (base' := w1.heap.size + 1) ?_ (by omega)
    repeat (with_reducible refine oset ?_ ?_; (focus omega))
    have := unhide HO
    simpa using this
  · repeat (first | with_reducible exact unhide HB | with_reducible exact Below.refl _ _ | with_reducible refine bdrew ?_ | (with_reducible refine brow ?_ ?_; (focus (first | omega | (simp; done) | (simp; omega)))) | (with_reducible refine bset ?_ ?_; (focus (first | omega | (simp; done) | (simp; omega)))) | (with_reducible refine balloc ?_ ?_; (focus (first | omega | (simp; done) | (simp; omega)))) | (with_reducible refine bvia (unhide HB1) ?_ ?_; (focus (first | omega | (simp; done) | (simp; omega)))) | (with_reducible refine bvia (unhide HB2) ?_ ?_; (focus (first | omega | (simp; done) | (simp; omega)))) | (with_reducible refine bvia (unhide HB3) ?_ ?_; (focus (first | omega | (simp; done) | (simp; omega)))) | (with_reducible refine bvia (unhide HB4) ?_ ?_; (focus (first | omega | (simp; done) | (simp; omega)))) | (with_reducible refine bvia (unhide HB5) ?_ ?_; (focus (first | omega | (simp; done) | (simp; omega)))) | (with_reducible refine bvia (unhide HB6) ?_ ?_; (focus (first | omega | (simp; done) | (simp; omega)))))
set_option maxRecDepth 10000 in
set_option maxHeartbeats 1000000 in
theorem outcome_6 (hd : DevAt w b t key F on wait next age) (n : Int) (tx : ByteArray) (cut torn : Int)
    (hrec : ∀ (W : World) (_ : DevAt W b t key F on wait next age), Calls Tryz.prog 80 #[.pointer (some ⟨b, 0, none⟩)] W fun e w' => e = .returned (recV pg num kp ph tr s0 v0 s1 v1 th) ∧ Below W.heap.size W w')
    (on' : Bool) (wait' next' age' : Nat) (err : Int) (text : ByteArray) (ask : Int) (l : List GW)
    (hx : ∀ (W : World) (_ : DevAt W b t key F on wait next age), Calls Tryz.prog 136 #[.pointer (some ⟨b, 0, none⟩), recV pg num kp ph tr s0 v0 s1 v1 th, .int .i64 n, .string tx] W fun e w' => OutRaw W on' wait' next' age' err text ask l e w') :
    Calls Tryz.prog 109 #[.pointer (some ⟨b, 0, none⟩), evV 6 n tx cut torn] w fun e w' => OutRaw w on' wait' next' age' err text ask l e w' := by
  have HD := hide hd
  have HR := hide hrec
  have HX := hide hx
  clear hd hrec hx
  go_enter Tryz.func109, Tryz.ntmps109
  go_wp2_with fail
  refine (unhide HR _ (((unhide HD).alloc _).alloc _)).mono ?_
  rintro e w1 ⟨rfl, hb1⟩
  obtain ⟨k1, k2, hs1, hb⟩ := blk2 hb1
  have HD1 := hide ((((unhide HD).alloc _).alloc _).kept hb1)
  obtain ⟨hx1, hf1⟩ := block_facts k1
  have K2 := hide k2
  have HB1 := hide hb
  clear hb hb1 k1 k2
  have l1 : w.heap.size < w1.heap.size := (by omega); have n1 : ¬ w.heap.size = w1.heap.size := (by omega)
  go_wp2_with fail
  refine (unhide HX _ ((unhide HD1).alloc _)).mono ?_
  rintro e w2 ⟨ao, cap, rfl, hown, hb2⟩
  obtain ⟨hx2, hf2⟩ := block_facts (kept_block hb2 (alloc_block (unhide K2) _))
  have HO := hide hown
  have HB2 := hide hb2
  have hs2 := hb2.size
  simp at hs2
  clear hown hb2 hx1 hf1
  generalize hn : l.length = m at *
  have HN := hide hn
  clear hn
  have l2 : w.heap.size + 1 < w2.heap.size := (by omega); have n2 : ¬ w.heap.size + 1 = w2.heap.size := (by omega)
  go_wp2
  refine bodyPost_ret (v := outV (.slice ao m cap) on' wait' next' age' err text ask) (by simp [results, Tryz.results109, go_sem, hx2]) rfl ⟨ao, cap, by rw [HN.out], ?_, ?_⟩
  · rw [HN.out]
    refine ownsRow_base (base' := w1.heap.size + 1) ?_ (by omega)
    repeat (with_reducible refine oset ?_ ?_; (focus omega))
    have := unhide HO
    simpa using this
  · repeat (first | with_reducible exact unhide HB | with_reducible exact Below.refl _ _ | with_reducible refine bdrew ?_ | (with_reducible refine brow ?_ ?_; (focus (first | omega | (simp; done) | (simp; omega)))) | (with_reducible refine bset ?_ ?_; (focus (first | omega | (simp; done) | (simp; omega)))) | (with_reducible refine balloc ?_ ?_; (focus (first | omega | (simp; done) | (simp; omega)))) | (with_reducible refine bvia (unhide HB1) ?_ ?_; (focus (first | omega | (simp; done) | (simp; omega)))) | (with_reducible refine bvia (unhide HB2) ?_ ?_; (focus (first | omega | (simp; done) | (simp; omega)))) | (with_reducible refine bvia (unhide HB3) ?_ ?_; (focus (first | omega | (simp; done) | (simp; omega)))) | (with_reducible refine bvia (unhide HB4) ?_ ?_; (focus (first | omega | (simp; done) | (simp; omega)))) | (with_reducible refine bvia (unhide HB5) ?_ ?_; (focus (first | omega | (simp; done) | (simp; omega)))) | (with_reducible refine bvia (unhide HB6) ?_ ?_; (focus (first | omega | (simp; done) | (simp; omega)))))
set_option maxRecDepth 10000 in
set_option maxHeartbeats 1000000 in
theorem outcome_7 (hd : DevAt w b t key F on wait next age) (n : Int) (tx : ByteArray) (cut torn : Int)
    (hrec : ∀ (W : World) (_ : DevAt W b t key F on wait next age), Calls Tryz.prog 80 #[.pointer (some ⟨b, 0, none⟩)] W fun e w' => e = .returned (recV pg num kp ph tr s0 v0 s1 v1 th) ∧ Below W.heap.size W w')
    (on' : Bool) (wait' next' age' : Nat) (err : Int) (text : ByteArray) (ask : Int) (l : List GW)
    (hx : ∀ (W : World) (_ : DevAt W b t key F on wait next age), Calls Tryz.prog 137 #[.pointer (some ⟨b, 0, none⟩), recV pg num kp ph tr s0 v0 s1 v1 th] W fun e w' => OutRaw W on' wait' next' age' err text ask l e w') :
    Calls Tryz.prog 109 #[.pointer (some ⟨b, 0, none⟩), evV 7 n tx cut torn] w fun e w' => OutRaw w on' wait' next' age' err text ask l e w' := by
  have HD := hide hd
  have HR := hide hrec
  have HX := hide hx
  clear hd hrec hx
  go_enter Tryz.func109, Tryz.ntmps109
  go_wp2_with fail
  refine (unhide HR _ (((unhide HD).alloc _).alloc _)).mono ?_
  rintro e w1 ⟨rfl, hb1⟩
  obtain ⟨k1, k2, hs1, hb⟩ := blk2 hb1
  have HD1 := hide ((((unhide HD).alloc _).alloc _).kept hb1)
  obtain ⟨hx1, hf1⟩ := block_facts k1
  have K2 := hide k2
  have HB1 := hide hb
  clear hb hb1 k1 k2
  have l1 : w.heap.size < w1.heap.size := (by omega); have n1 : ¬ w.heap.size = w1.heap.size := (by omega)
  go_wp2_with fail
  refine (unhide HX _ ((unhide HD1).alloc _)).mono ?_
  rintro e w2 ⟨ao, cap, rfl, hown, hb2⟩
  obtain ⟨hx2, hf2⟩ := block_facts (kept_block hb2 (alloc_block (unhide K2) _))
  have HO := hide hown
  have HB2 := hide hb2
  have hs2 := hb2.size
  simp at hs2
  clear hown hb2 hx1 hf1
  generalize hn : l.length = m at *
  have HN := hide hn
  clear hn
  have l2 : w.heap.size + 1 < w2.heap.size := (by omega); have n2 : ¬ w.heap.size + 1 = w2.heap.size := (by omega)
  go_wp2
  refine bodyPost_ret (v := outV (.slice ao m cap) on' wait' next' age' err text ask) (by simp [results, Tryz.results109, go_sem, hx2]) rfl ⟨ao, cap, by rw [HN.out], ?_, ?_⟩
  · rw [HN.out]
    refine ownsRow_base (base' := w1.heap.size + 1) ?_ (by omega)
    repeat (with_reducible refine oset ?_ ?_; (focus omega))
    have := unhide HO
    simpa using this
  · repeat (first | with_reducible exact unhide HB | with_reducible exact Below.refl _ _ | with_reducible refine bdrew ?_ | (with_reducible refine brow ?_ ?_; (focus (first | omega | (simp; done) | (simp; omega)))) | (with_reducible refine bset ?_ ?_; (focus (first | omega | (simp; done) | (simp; omega)))) | (with_reducible refine balloc ?_ ?_; (focus (first | omega | (simp; done) | (simp; omega)))) | (with_reducible refine bvia (unhide HB1) ?_ ?_; (focus (first | omega | (simp; done) | (simp; omega)))) | (with_reducible refine bvia (unhide HB2) ?_ ?_; (focus (first | omega | (simp; done) | (simp; omega)))) | (with_reducible refine bvia (unhide HB3) ?_ ?_; (focus (first | omega | (simp; done) | (simp; omega)))) | (with_reducible refine bvia (unhide HB4) ?_ ?_; (focus (first | omega | (simp; done) | (simp; omega)))) | (with_reducible refine bvia (unhide HB5) ?_ ?_; (focus (first | omega | (simp; done) | (simp; omega)))) | (with_reducible refine bvia (unhide HB6) ?_ ?_; (focus (first | omega | (simp; done) | (simp; omega)))))
set_option maxRecDepth 10000 in
set_option maxHeartbeats 1000000 in
theorem outcome_1 (hd : DevAt w b t key F on wait next age) (n : Int) (tx : ByteArray) (cut torn : Int)
    (hrec : ∀ (W : World) (_ : DevAt W b t key F on wait next age), Calls Tryz.prog 80 #[.pointer (some ⟨b, 0, none⟩)] W fun e w' => e = .returned (recV pg num kp ph tr s0 v0 s1 v1 th) ∧ Below W.heap.size W w') :
    Calls Tryz.prog 109 #[.pointer (some ⟨b, 0, none⟩), evV 1 n tx cut torn] w fun e w' => OutRaw w false 0 0 0 0 ⟨#[]⟩ (-1) [] e w' := by
  have HD := hide hd
  have HR := hide hrec
  clear hd hrec
  go_enter Tryz.func109, Tryz.ntmps109
  go_wp2_with fail
  refine (unhide HR _ (((unhide HD).alloc _).alloc _)).mono ?_
  rintro e w1 ⟨rfl, hb1⟩
  obtain ⟨k1, k2, hs1, hb⟩ := blk2 hb1
  obtain ⟨hx1, hf1⟩ := block_facts k1
  obtain ⟨hx2, hf2⟩ := block_facts k2
  have HB := hide hb
  clear hb hb1 k1 k2
  have l1 : w.heap.size < w1.heap.size := (by omega); have n1 : ¬ w.heap.size = w1.heap.size := (by omega)
  have l2 : w.heap.size + 1 < w1.heap.size := (by omega); have n2 : ¬ w.heap.size + 1 = w1.heap.size := (by omega)
  go_wp2
  refine bodyPost_ret (v := outV (.slice none 0 0) false 0 0 0 0 ⟨#[]⟩ (-1)) (by simp [results, Tryz.results109, go_sem, hx2, l2]) rfl (raw_none rfl ?_)
  repeat (first | with_reducible exact unhide HB | with_reducible exact Below.refl _ _ | with_reducible refine bdrew ?_ | (with_reducible refine brow ?_ ?_; (focus (first | omega | (simp; done) | (simp; omega)))) | (with_reducible refine bset ?_ ?_; (focus (first | omega | (simp; done) | (simp; omega)))) | (with_reducible refine balloc ?_ ?_; (focus (first | omega | (simp; done) | (simp; omega)))) | (with_reducible refine bvia (unhide HB1) ?_ ?_; (focus (first | omega | (simp; done) | (simp; omega)))) | (with_reducible refine bvia (unhide HB2) ?_ ?_; (focus (first | omega | (simp; done) | (simp; omega)))) | (with_reducible refine bvia (unhide HB3) ?_ ?_; (focus (first | omega | (simp; done) | (simp; omega)))) | (with_reducible refine bvia (unhide HB4) ?_ ?_; (focus (first | omega | (simp; done) | (simp; omega)))) | (with_reducible refine bvia (unhide HB5) ?_ ?_; (focus (first | omega | (simp; done) | (simp; omega)))) | (with_reducible refine bvia (unhide HB6) ?_ ?_; (focus (first | omega | (simp; done) | (simp; omega)))))
theorem refuse_kind (k : Int) (hk : k < 1 ∨ 7 < k) (w : World) (b : Nat) : Calls Tryz.prog 107 #[.pointer (some ⟨b, 0, none⟩), .int .i64 k] w fun e w' => e = .returned (.int .i64 7) ∧ w = w' := by
  rcases hk with hk | hk
  · go_enter Tryz.func107, Tryz.ntmps107
    go_wp2
    go_ret
    exact ⟨rfl, rfl⟩
  · have h1 : ¬ k < 1 := by omega
    go_enter Tryz.func107, Tryz.ntmps107
    go_wp2
    go_ret
    exact ⟨rfl, rfl⟩
theorem refuse_on (hd : DevAt w b t key F true wait next age) : Calls Tryz.prog 107 #[.pointer (some ⟨b, 0, none⟩), .int .i64 2] w fun e w' => e = .returned (.int .i64 9) ∧ w = w' := by
  have hc := hd.onC
  clear hd
  go_enter Tryz.func107, Tryz.ntmps107
  go_wp2
  go_ret
  exact ⟨rfl, rfl⟩
theorem refuse_off (hd : DevAt w b t key F false wait next age) (k : Int) (h1 : 1 ≤ k) (h7 : k ≤ 7) (h2 : k ≠ 2) : Calls Tryz.prog 107 #[.pointer (some ⟨b, 0, none⟩), .int .i64 k] w fun e w' => e = .returned (.int .i64 8) ∧ w = w' := by
  have hc := hd.onC
  have g1 : ¬ k < 1 := by omega
  have g7 : ¬ 7 < k := by omega
  have g2 : (k != 2) = true := by simp [h2]
  clear hd
  go_enter Tryz.func107, Tryz.ntmps107
  go_wp2
  go_ret
  exact ⟨rfl, rfl⟩
theorem refuse_no_on (hd : DevAt w b t key F true wait next age) (k : Int) (h1 : 1 ≤ k) (h7 : k ≤ 7) (h2 : k ≠ 2) : Calls Tryz.prog 107 #[.pointer (some ⟨b, 0, none⟩), .int .i64 k] w fun e w' => e = .returned (.int .i64 0) ∧ w = w' := by
  have hc := hd.onC
  have g1 : ¬ k < 1 := by omega
  have g7 : ¬ 7 < k := by omega
  clear hd
  go_enter Tryz.func107, Tryz.ntmps107
  go_wp2
  go_ret
  exact ⟨rfl, rfl⟩
theorem refuse_no_off (hd : DevAt w b t key F false wait next age) : Calls Tryz.prog 107 #[.pointer (some ⟨b, 0, none⟩), .int .i64 2] w fun e w' => e = .returned (.int .i64 0) ∧ w = w' := by
  have hc := hd.onC
  clear hd
  go_enter Tryz.func107, Tryz.ntmps107
  go_wp2
  go_ret
  exact ⟨rfl, rfl⟩
end
end Go.Proofs.YtjfmiomopfjecabGreat

/- Do, over what an event comes to. -/
namespace Go.Proofs.YtjfmiomopfjecabGreat
open Go.RowKit Go.Lib

theorem ol_set {p : Nat → Prop} {w W : World} {g o : Nat} {v : Value} (hg : w.heap.size ≤ g) (h : Only p w W) : Only p w (W.setCell ⟨g, o, none⟩ v) := by
  refine ⟨h.os, h.tape, h.output, ?_, fun k hk hn => ?_⟩
  · exact Nat.le_trans h.size (by simp [World.setCell])
  · rw [Below.heap_setCell _ _ _ _ (by show ¬ k = g; omega)]
    exact h.block k hk hn
theorem ol_dev {b : Nat} {w W : World} {o : Nat} {v : Value} (h : Only (· = b) w W) : Only (· = b) w (W.setCell ⟨b, o, none⟩ v) := h.trans (only_set W b o v)
theorem ol_alloc {p : Nat → Prop} {w W : World} {o : Obj} (h : Only p w W) : Only p w (W.alloc o) := h.trans (only_alloc p W o)
theorem ol_drew {p : Nat → Prop} {w W : World} (h : Only p w W) : Only p w W.drew := h.drew
theorem ol_via {p : Nat → Prop} {w X W : World} (hX : Below X.heap.size X W) (h : Only p w X) : Only p w W := h.trans (Only.of hX)
def DoPost (w : World) (b : Nat) (t : TypeId) (key : ByteArray) (F' : Nat → Nat) (on' : Bool) (wait' next' age' : Nat) (err ver : Int) (text : ByteArray) (ask : Int) (lasts : Bool) (e : Ending) (w' : World) : Prop :=
  (lasts = false → e = .returned (repV 10 0 ⟨#[]⟩ (-1)) ∧ DevAt w' b t key F' false 0 0 0) ∧
  (lasts = true → DevAt w' b t key F' on' wait' next' age' ∧ (err ≠ 0 → e = .returned (repV err 0 ⟨#[]⟩ (-1))) ∧ (err = 0 → e = .returned (repV 0 ver text ask))) ∧ Only (· = b) w w'
section
variable {w w' : World} {b : Nat} {t : TypeId} {key : ByteArray} {F' : Nat → Nat} {on' : Bool} {wait' next' age' : Nat} {err ver : Int} {text : ByteArray} {ask : Int} {lasts : Bool} {v : Value}
theorem post_cut (hl : lasts = false) (hv : v = repV 10 0 ⟨#[]⟩ (-1)) (hd : DevAt w' b t key F' false 0 0 0) (ho : Only (· = b) w w') : DoPost w b t key F' on' wait' next' age' err ver text ask lasts (.returned v) w' :=
  ⟨fun _ => ⟨by rw [hv], hd⟩, fun h => (by rw [hl] at h; cases h), ho⟩
theorem post_err (hl : lasts = true) (he : err ≠ 0) (hv : v = repV err 0 ⟨#[]⟩ (-1)) (hd : DevAt w' b t key F' on' wait' next' age') (ho : Only (· = b) w w') : DoPost w b t key F' on' wait' next' age' err ver text ask lasts (.returned v) w' :=
  ⟨fun h => (by rw [hl] at h; cases h), fun _ => ⟨hd, fun _ => by rw [hv], fun h => absurd h he⟩, ho⟩
theorem post_ok (hl : lasts = true) (he : err = 0) (hv : v = repV 0 ver text ask) (hd : DevAt w' b t key F' on' wait' next' age') (ho : Only (· = b) w w') : DoPost w b t key F' on' wait' next' age' err ver text ask lasts (.returned v) w' :=
  ⟨fun h => (by rw [hl] at h; cases h), fun _ => ⟨hd, fun h => absurd he h, fun _ => by rw [hv]⟩, ho⟩
end
section
variable {w : World} {b : Nat} {t : TypeId} {key : ByteArray} {F : Nat → Nat} {on : Bool} {wait next age : Nat}
set_option maxRecDepth 10000 in
theorem rawDo_refused (hd : DevAt w b t key F on wait next age) (k n : Int) (tx : ByteArray) (cut torn err : Int) (he : err ≠ 0)
    (hrf : ∀ (W : World) (_ : DevAt W b t key F on wait next age), Calls Tryz.prog 107 #[.pointer (some ⟨b, 0, none⟩), .int .i64 k] W fun e w' => e = .returned (.int .i64 err) ∧ W = w') :
    Calls Tryz.prog 77 #[.pointer (some ⟨b, 0, none⟩), evV k n tx cut torn] w fun e w' => e = .returned (repV err 0 ⟨#[]⟩ (-1)) ∧ Below w.heap.size w w' := by
  have HD := hide hd
  have HR := hide hrf
  have hn0 : (err != 0) = true := by simp [he]
  clear hd hrf
  go_enter Tryz.func77, Tryz.ntmps77
  go_wp2_with fail
  refine (unhide HR _ (((unhide HD).alloc _).alloc _)).mono ?_
  rintro e w' ⟨rfl, rfl⟩
  go_wp2_with fail
  refine (devFailed_any err _).mono ?_
  rintro e w1 ⟨rfl, hb1⟩
  obtain ⟨k1, k2, hs1, hb⟩ := blk2 hb1
  obtain ⟨hx2, hf2⟩ := block_facts k2
  have HB := hide hb
  clear hb hb1 k1 k2
  have l2 : w.heap.size + 1 < w1.heap.size := (by omega); have n2 : ¬ w.heap.size + 1 = w1.heap.size := (by omega)
  go_wp2
  refine bodyPost_ret (v := repV err 0 ⟨#[]⟩ (-1)) (by simp [results, Tryz.results77, go_sem, hx2]) rfl ⟨rfl, ?_⟩
  repeat (first | with_reducible exact unhide HB | with_reducible exact Below.refl _ _ | with_reducible refine bdrew ?_ | (with_reducible refine brow ?_ ?_; (focus (first | omega | (simp; done) | (simp; omega)))) | (with_reducible refine bset ?_ ?_; (focus (first | omega | (simp; done) | (simp; omega)))) | (with_reducible refine balloc ?_ ?_; (focus (first | omega | (simp; done) | (simp; omega)))) | (with_reducible refine bvia (unhide HB1) ?_ ?_; (focus (first | omega | (simp; done) | (simp; omega)))) | (with_reducible refine bvia (unhide HB2) ?_ ?_; (focus (first | omega | (simp; done) | (simp; omega)))) | (with_reducible refine bvia (unhide HB3) ?_ ?_; (focus (first | omega | (simp; done) | (simp; omega)))) | (with_reducible refine bvia (unhide HB4) ?_ ?_; (focus (first | omega | (simp; done) | (simp; omega)))) | (with_reducible refine bvia (unhide HB5) ?_ ?_; (focus (first | omega | (simp; done) | (simp; omega)))) | (with_reducible refine bvia (unhide HB6) ?_ ?_; (focus (first | omega | (simp; done) | (simp; omega)))))
set_option maxRecDepth 10000 in
set_option maxHeartbeats 2000000 in
theorem rawDo (hd : DevAt w b t key F on wait next age) (k n : Int) (tx : ByteArray) (cut torn : Int)
    (hrf : ∀ (W : World) (_ : DevAt W b t key F on wait next age), Calls Tryz.prog 107 #[.pointer (some ⟨b, 0, none⟩), .int .i64 k] W fun e w' => e = .returned (.int .i64 0) ∧ W = w')
    (on' : Bool) (wait' next' age' : Nat) (err : Int) (text : ByteArray) (ask : Int) (l : List GW) (hl : ∀ a ∈ l, a.1 < 23 ∧ a.2.size ≤ maxLen) (hlen : l.length ≤ 20)
    (hout : ∀ (W : World) (_ : DevAt W b t key F on wait next age), Calls Tryz.prog 109 #[.pointer (some ⟨b, 0, none⟩), evV k n tx cut torn] W fun e w' => OutRaw W on' wait' next' age' err text ask l e w')
    (sb : Bool) (i1 i2 ver i4 i5 i6 : Int)
    (hst : err = 0 → lastsB cut l.length = true → ∀ (W : World) (_ : DevAt W b t key (writtenF F l cut torn) on' wait' next' age'), Calls Tryz.prog 61 #[.pointer (some ⟨b, 0, none⟩)] W fun e w' => e = .returned (.agg #[.bool sb, .int .i64 i1, .int .i64 i2, .int .i64 ver, .int .i64 i4, .int .i64 i5, .int .i64 i6]) ∧ Below W.heap.size W w') :
    Calls Tryz.prog 77 #[.pointer (some ⟨b, 0, none⟩), evV k n tx cut torn] w fun e w' => DoPost w b t key (writtenF F l cut torn) on' wait' next' age' err ver text ask (lastsB cut l.length) e w' := by
  have hlt := hd.lt
  have HD := hide hd
  have HR := hide hrf
  have HOU := hide hout
  have HST := hide hst
  have HL := hide hl
  clear hd hrf hout hst hl
  go_enter Tryz.func77, Tryz.ntmps77
  go_wp2_with fail
  refine (unhide HR _ (((unhide HD).alloc _).alloc _)).mono ?_
  rintro e w' ⟨rfl, rfl⟩
  go_wp2_with fail
  refine (unhide HOU _ (((unhide HD).alloc _).alloc _)).mono ?_
  rintro e w3 ⟨ao, cap, rfl, hown, hb3⟩
  obtain ⟨k1, k2, hs3, hb⟩ := blk2 hb3
  have HD3 := hide ((((unhide HD).alloc _).alloc _).kept hb3)
  have K1 := hide k1
  have K2 := hide k2
  have HB3 := hide hb
  have hown' : w3.ownsRow (w.heap.size + 1 + 1) 136 2 (.slice ao l.length cap) l.length (gwCells l) := by simpa using hown
  have HO3 := hide hown'
  clear hb hb3 k1 k2 hown hown' HR HOU
  go_wp2_with fail
  have rule1 : ∀ (X : World) (o : Nat), X.heap[w3.heap.size]? = some (.cells (outC (.slice ao l.length cap) on' wait' next' age' err text ask) 163 (0, 0)) → X.cell? ⟨w3.heap.size, o, none⟩ = (outC (.slice ao l.length cap) on' wait' next' age' err text ask)[o]? := fun X o h => cell_in h o
  have rule2 : ∀ (X : World) (o : Nat), X.heap[w.heap.size]? = some (.cells #[.int .i64 k, .int .i64 n, .string tx, .int .i64 cut, .int .i64 torn] 74 (0, 0)) → X.cell? ⟨w.heap.size, o, none⟩ = (#[.int .i64 k, .int .i64 n, .string tx, .int .i64 cut, .int .i64 torn] : Array Value)[o]? := fun X o h => cell_in h o
  go_region_held3 (fun X => X.heap[w3.heap.size]? = some (.cells (outC (.slice ao l.length cap) on' wait' next' age' err text ask) 163 (0, 0)) ∧ X.heap[w.heap.size]? = some (.cells #[.int .i64 k, .int .i64 n, .string tx, .int .i64 cut, .int .i64 torn] 74 (0, 0))) (refine ⟨?_, ?_⟩ <;> (repeat (first | with_reducible exact hC1 | with_reducible exact hC2 | with_reducible exact unhide K1 | with_reducible exact last_block _ _ rfl | with_reducible refine ablk ?_ | with_reducible refine drew_block ?_))) ((go_at_call 76; refine (writeAll_any (((unhide HD3).alloc _).drew) _ l cut torn (HoldsRow.mono (holdsRow_own (unhide HO3)) ((Below.refl _ _).alloc (Nat.le_refl _) _).drew) (fun e => by have := ((unhide HO3).lt _ e).1; omega) (by omega) (unhide HL)).mono ?_; rintro e w4 ⟨rfl, hd4, ho4⟩; have hC1 := (ho4.block w3.heap.size (by simp) (by omega)).trans (drew_block (last_block _ _ rfl)); have hC2 := (ho4.block w.heap.size (by simp; omega) (by omega)).trans (drew_block (alloc_block (unhide K1) _))))
  have k2 := (ho4.block (w.heap.size + 1) (by simp; omega) (by omega)).trans (drew_block (alloc_block (unhide K2) _))
  have hs4 := ho4.size
  simp at hs4
  have HOL4 : Hid (Only (· = b) w w4) := ((Only.of (unhide HB3)).trans ((only_alloc _ w3 _).drew)).trans ho4
  obtain ⟨hxo, hfo⟩ := block_facts hC1
  have KO := hide hC1
  have K4 := hide k2
  have HD4 := hide hd4
  have c1 := hd4.onC
  have c2 := hd4.waitC
  have c3 := hd4.nextC
  have c4 := hd4.ageC
  have hfd := hd4.free
  have nb1 : ¬ w3.heap.size = b := by omega
  have nb2 : ¬ b = w3.heap.size := by omega
  have nb3 : ¬ w.heap.size + 1 = b := by omega
  have nb4 : ¬ b = w.heap.size + 1 := by omega
  clear rule1 rule2 hC1 hC2 ho4 hd4 k2 K1 K2 HB3 HO3 HD3
  generalize hLS : lastsB cut l.length = ls at *
  have HLS0 := hide hLS
  clear hLS
  cases ls
  · have HLS : Hid (lastsB cut l.length = false) := HLS0
    clear hxo hfo
    go_wp2_with fail
    refine (devFailed_any 10 _).mono ?_
    rintro e w5 ⟨rfl, hb5⟩
    have kd : w5.heap[b]? = some (.cells (devCells key (writtenF F l cut torn) false 0 0 0) t (0, 0)) := kept_block hb5 (((((unhide HD4).setOn false).setWait 0).setNext 0).setAge 0)
    have kr := kept_block hb5 (sblk nb3 (sblk nb3 (sblk nb3 (sblk nb3 (unhide K4)))))
    obtain ⟨hxr, hfr⟩ := block_facts kr
    have KD := hide kd
    have HB6 := hide hb5
    have HOL := HOL4
    have hs5 := hb5.size
    simp at hs5
    clear hb5 kd kr c1 c2 c3 c4 hfd
    have l5 : w.heap.size + 1 < w5.heap.size := (by omega); have n5 : ¬ w.heap.size + 1 = w5.heap.size := (by omega)
    go_wp2
    refine bodyPost_ret (v := repV 10 0 ⟨#[]⟩ (-1)) (by simp [results, Tryz.results77, go_sem, hxr]) rfl (post_cut HLS.out rfl ?_ ?_)
    · unfold DevAt
      repeat (first | with_reducible exact unhide KD | (with_reducible refine lblk ?_; (focus (first | rfl | (simp; done)))) | with_reducible refine ablk ?_ | with_reducible refine drew_block ?_ | (with_reducible refine sblk ?_ ?_; (focus (first | omega | (simp; done) | (simp; omega)))))
    · repeat (first | with_reducible exact unhide HOL | with_reducible refine ol_drew ?_ | with_reducible refine ol_dev ?_ | (with_reducible refine ol_set ?_ ?_; (focus (first | omega | (simp; done) | (simp; omega)))) | with_reducible refine ol_alloc ?_ | with_reducible refine ol_via (unhide HB6) ?_ | with_reducible refine ol_via (unhide HB7) ?_)
  · have HLS : Hid (lastsB cut l.length = true) := HLS0
    by_cases he : err = 0
    · subst he
      have HST' := hide (unhide HST rfl rfl)
      clear HST
      go_wp2_with fail
      refine (unhide HST' _ (((((unhide HD4).setOn on').setWait wait').setNext next').setAge age')).mono ?_
      rintro e w5 ⟨rfl, hb5⟩
      have kd : w5.heap[b]? = some (.cells (devCells key (writtenF F l cut torn) on' wait' next' age') t (0, 0)) := kept_block hb5 (((((unhide HD4).setOn on').setWait wait').setNext next').setAge age')
      have kr := kept_block hb5 (sblk nb3 (sblk nb3 (sblk nb3 (sblk nb3 (unhide K4)))))
      have ko := kept_block hb5 (sblk nb1 (sblk nb1 (sblk nb1 (sblk nb1 (unhide KO)))))
      clear hxo hfo
      obtain ⟨hxr, hfr⟩ := block_facts kr
      obtain ⟨hxo, hfo⟩ := block_facts ko
      have KD := hide kd
      have HB6 := hide hb5
      have HOL := HOL4
      have hs5 := hb5.size
      simp at hs5
      clear hb5 kd kr ko c1 c2 c3 c4 hfd HST'
      have l5 : w.heap.size + 1 < w5.heap.size := (by omega); have n5 : ¬ w.heap.size + 1 = w5.heap.size := (by omega)
      have l6 : w3.heap.size < w5.heap.size := (by omega); have n6 : ¬ w3.heap.size = w5.heap.size := (by omega)
      go_wp2
      refine bodyPost_ret (v := repV 0 ver text ask) (by simp [results, Tryz.results77, go_sem, hxr, l5]) rfl (post_ok HLS.out rfl rfl ?_ ?_)
      · unfold DevAt
        repeat (first | with_reducible exact unhide KD | (with_reducible refine lblk ?_; (focus (first | rfl | (simp; done)))) | with_reducible refine ablk ?_ | with_reducible refine drew_block ?_ | (with_reducible refine sblk ?_ ?_; (focus (first | omega | (simp; done) | (simp; omega)))))
      · repeat (first | with_reducible exact unhide HOL | with_reducible refine ol_drew ?_ | with_reducible refine ol_dev ?_ | (with_reducible refine ol_set ?_ ?_; (focus (first | omega | (simp; done) | (simp; omega)))) | with_reducible refine ol_alloc ?_ | with_reducible refine ol_via (unhide HB6) ?_ | with_reducible refine ol_via (unhide HB7) ?_)
    · have hn0 : (err != 0) = true := by simp [he]
      go_wp2_with fail
      refine (devFailed_any err _).mono ?_
      rintro e w5 ⟨rfl, hb5⟩
      have kd : w5.heap[b]? = some (.cells (devCells key (writtenF F l cut torn) on' wait' next' age') t (0, 0)) := kept_block hb5 (((((unhide HD4).setOn on').setWait wait').setNext next').setAge age')
      have kr := kept_block hb5 (sblk nb3 (sblk nb3 (sblk nb3 (sblk nb3 (unhide K4)))))
      clear hxo hfo
      obtain ⟨hxr, hfr⟩ := block_facts kr
      have KD := hide kd
      have HB6 := hide hb5
      have HOL := HOL4
      have hs5 := hb5.size
      simp at hs5
      clear hb5 kd kr c1 c2 c3 c4 hfd HST
      have l5 : w.heap.size + 1 < w5.heap.size := (by omega); have n5 : ¬ w.heap.size + 1 = w5.heap.size := (by omega)
      go_wp2
      refine bodyPost_ret (v := repV err 0 ⟨#[]⟩ (-1)) (by simp [results, Tryz.results77, go_sem, hxr]) rfl (post_err HLS.out he rfl ?_ ?_)
      · unfold DevAt
        repeat (first | with_reducible exact unhide KD | (with_reducible refine lblk ?_; (focus (first | rfl | (simp; done)))) | with_reducible refine ablk ?_ | with_reducible refine drew_block ?_ | (with_reducible refine sblk ?_ ?_; (focus (first | omega | (simp; done) | (simp; omega)))))
      · repeat (first | with_reducible exact unhide HOL | with_reducible refine ol_drew ?_ | with_reducible refine ol_dev ?_ | (with_reducible refine ol_set ?_ ?_; (focus (first | omega | (simp; done) | (simp; omega)))) | with_reducible refine ol_alloc ?_ | with_reducible refine ol_via (unhide HB6) ?_ | with_reducible refine ol_via (unhide HB7) ?_)
end
end Go.Proofs.YtjfmiomopfjecabGreat

/- What the program does at an event is what the document says. -/
namespace Go.Proofs.YtjfmiomopfjecabGreat
open Go.RowKit Go.Lib

/-- a device in memory is this one; what it remembers counts only while it is on -/
def DevRel (W : World) (b : Nat) (t : TypeId) (d : M.Dev) : Prop :=
  ∃ wait next age, DevAt W b t d.key d.F d.on wait next age ∧ (d.on = true → wait = d.wait ∧ next = d.next ∧ age = d.age)
theorem DevRel.lt {W : World} {b : Nat} {t : TypeId} {d : M.Dev} (h : DevRel W b t d) : b < W.heap.size := by
  obtain ⟨_, _, _, hd, _⟩ := h
  exact hd.lt
theorem DevRel.kept {W W' : World} {b : Nat} {t : TypeId} {d : M.Dev} (h : DevRel W b t d) (hb : Below W.heap.size W W') : DevRel W' b t d := by
  obtain ⟨x, y, z, hd, hm⟩ := h
  exact ⟨x, y, z, hd.kept hb, hm⟩
theorem DevRel.only {W W' : World} {b : Nat} {t : TypeId} {d : M.Dev} {p : Nat → Prop} (h : DevRel W b t d) (ho : Only p W W') (hn : ¬ p b) : DevRel W' b t d := by
  obtain ⟨x, y, z, hd, hm⟩ := h
  exact ⟨x, y, z, (ho.block b hd.lt hn).trans hd, hm⟩
/-- the answer, as it lies in memory -/
abbrev rpV (r : M.Rp) : Value := repV r.err r.ver r.text r.ask
def Played (W : World) (b : Nat) (t : TypeId) (d : M.Dev) (e : M.Ev) (x : Ending) (w' : World) : Prop := x = .returned (rpV (M.doM d e).2) ∧ DevRel w' b t (M.doM d e).1 ∧ Only (· = b) W w'
theorem lasts_cuts {e : M.Ev} {l : List GW} {p : M.Plan} (hl : Link l p) : lastsB e.cut l.length = !M.cuts e p.ws := by
  have h := length_res hl.2.2
  rw [gwsOf_length] at h
  unfold lastsB M.cuts
  rw [h]
theorem written_is {F : Nat → Nat} {e : M.Ev} {l : List GW} {p : M.Plan} (hl : Link l p) : writtenF F l e.cut e.torn = if M.cuts e p.ws = true then M.cutAt F p.ws e.cut.toNat (M.tornN e.torn) else M.puts F p.ws := by
  have h := length_res hl.2.2
  rw [gwsOf_length] at h
  unfold writtenF M.cuts
  by_cases hc : 0 ≤ e.cut ∧ e.cut < l.length
  · rw [if_pos hc, if_pos (by rw [← h]; exact decide_eq_true hc), cut_res hl.2.2 _ _ (M.tornN_le _)]
  · rw [if_neg hc, if_neg (by rw [← h, decide_eq_false hc]; decide), puts_res hl.2.2]
section
variable {d : M.Dev} {W w' : World} {b : Nat} {t : TypeId} {e : M.Ev} {x : Ending}
/-- nothing is done but that an error is answered -/
theorem played_fails {n : Nat} (hn : n ≠ 0) (hp : M.planned d e = M.fails d n) (hrel : DevRel W b t d) (hx : x = .returned (repV n 0 ⟨#[]⟩ (-1))) (hb : Below W.heap.size W w') : Played W b t d e x w' := by
  have hc : M.cuts e (M.planned d e).ws = false := by rw [hp]; unfold M.cuts M.fails; simp
  have ed : M.doM d e = (⟨d.key, d.F, d.on, d.wait, d.next, d.age⟩, ⟨n, 0, ⟨#[]⟩, -1⟩) := by
    unfold M.doM
    rw [hc, if_neg (by decide), hp]
    refine congrArg (Prod.mk _) ?_
    show M.Rp.mk n (if n = 0 ∧ d.on = true then _ else 0) ⟨#[]⟩ (-1) = _
    rw [if_neg (fun h => hn h.1)]
  unfold Played
  rw [ed]
  exact ⟨hx, hrel.kept hb, Only.of hb⟩
theorem played_post {p : M.Plan} (hp : M.planned d e = p) {l : List GW} (hl : Link l p) {wait' next' age' : Nat} {ver : Nat} (herr : p.err ≠ 0 → p.text = ⟨#[]⟩ ∧ p.ask = -1) (hmem : p.on = true → wait' = p.wait ∧ next' = p.next ∧ age' = p.age)
    (hver : ver = if p.on = true then M.verOf (M.puts d.F p.ws) (M.servedD (M.puts d.F p.ws)) else 0)
    (h : DoPost W b t d.key (writtenF d.F l e.cut e.torn) p.on wait' next' age' p.err ver p.text p.ask (lastsB e.cut l.length) x w') : Played W b t d e x w' := by
  obtain ⟨h1, h2, h3⟩ := h
  rw [written_is hl] at h1 h2
  rw [lasts_cuts hl] at h1 h2
  unfold Played
  cases hc : M.cuts e p.ws
  · rw [hc] at h2
    obtain ⟨hd, he, hk⟩ := h2 rfl
    rw [if_neg (by decide)] at hd
    have ed : M.doM d e = (⟨d.key, M.puts d.F p.ws, p.on, p.wait, p.next, p.age⟩, ⟨p.err, if p.err = 0 ∧ p.on = true then M.verOf (M.puts d.F p.ws) (M.servedD (M.puts d.F p.ws)) else 0, p.text, p.ask⟩) := by
      unfold M.doM
      rw [hp, hc, if_neg (by decide)]
    rw [ed]
    refine ⟨?_, ⟨wait', next', age', hd, hmem⟩, h3⟩
    by_cases h0 : p.err = 0
    · rw [hk (by omega), hver]
      show Ending.returned (repV 0 _ _ _) = Ending.returned (repV p.err _ _ _)
      rw [h0]
      by_cases ho : p.on = true
      · rw [if_pos ho, if_pos ⟨rfl, ho⟩]; rfl
      · rw [if_neg ho, if_neg (fun h => ho h.2)]; rfl
    · rw [he (by omega)]
      show Ending.returned (repV p.err 0 ⟨#[]⟩ (-1)) = Ending.returned (repV p.err (if p.err = 0 ∧ p.on = true then _ else 0 : Nat) p.text p.ask)
      rw [if_neg (fun h => h0 h.1), (herr h0).1, (herr h0).2]
      rfl
  · rw [hc] at h1
    obtain ⟨hx, hd⟩ := h1 rfl
    rw [if_pos rfl] at hd
    have ed : M.doM d e = ({ d with F := M.cutAt d.F p.ws e.cut.toNat (M.tornN e.torn), on := false }, ⟨10, 0, ⟨#[]⟩, -1⟩) := by
      unfold M.doM
      rw [hp, hc, if_pos rfl]
    rw [ed]
    exact ⟨hx, ⟨0, 0, 0, hd, fun h => by cases h⟩, h3⟩
theorem ticks_on (d : M.Dev) : (M.ticks d).on = d.on := by
  unfold M.ticks
  by_cases h2 : M.fld d.F 2 = 2
  · rw [if_pos h2]
  · rw [if_neg h2]
    by_cases h1 : M.fld d.F 2 = 1
    · rw [if_pos h1]
      cases M.missing d.F with
      | nil =>
        show (M.installs d).on = d.on
        unfold M.installs
        split <;> rfl
      | cons i r =>
        show (if d.wait ≤ 1 then _ else _ : M.Plan).on = d.on
        split <;> rfl
    · rw [if_neg h1]
      rfl
theorem ticks_err (d : M.Dev) (h : (M.ticks d).err ≠ 0) : (M.ticks d).text = ⟨#[]⟩ ∧ (M.ticks d).ask = -1 := by
  unfold M.ticks at *
  by_cases h2 : M.fld d.F 2 = 2
  · rw [if_pos h2]
    exact ⟨rfl, rfl⟩
  · rw [if_neg h2] at h ⊢
    by_cases h1 : M.fld d.F 2 = 1
    · rw [if_pos h1] at h ⊢
      cases hm : M.missing d.F with
      | nil =>
        show (M.installs d).text = ⟨#[]⟩ ∧ (M.installs d).ask = -1
        unfold M.installs
        split <;> exact ⟨rfl, rfl⟩
      | cons i r =>
        rw [hm] at h
        have h' : (if d.wait ≤ 1 then (⟨[], 0, ⟨#[]⟩, i, d.next, min 8 (2 * d.next), d.age, d.on⟩ : M.Plan) else ⟨[], 0, ⟨#[]⟩, -1, d.wait - 1, d.next, d.age, d.on⟩).err ≠ 0 := h
        exfalso
        by_cases hw : d.wait ≤ 1
        · rw [if_pos hw] at h'; exact h' rfl
        · rw [if_neg hw] at h'; exact h' rfl
    · rw [if_neg h1]
      exact ⟨rfl, rfl⟩
theorem offers_on (d : M.Dev) (s : ByteArray) : (M.offers d s).on = d.on ∧ (M.offers d s).text = ⟨#[]⟩ ∧ (M.offers d s).ask = -1 := by
  unfold M.offers
  split
  · exact ⟨rfl, rfl, rfl⟩
  · split
    · exact ⟨rfl, rfl, rfl⟩
    · split <;> exact ⟨rfl, rfl, rfl⟩
theorem takes_on (d : M.Dev) (i : Int) (s : ByteArray) : (M.takes d i s).on = d.on ∧ (M.takes d i s).text = ⟨#[]⟩ ∧ (M.takes d i s).ask = -1 := by
  unfold M.takes
  split
  · exact ⟨rfl, rfl, rfl⟩
  · split
    · exact ⟨rfl, rfl, rfl⟩
    · split <;> exact ⟨rfl, rfl, rfl⟩
theorem confirms_on (d : M.Dev) : (M.confirms d).on = d.on ∧ (M.confirms d).text = ⟨#[]⟩ ∧ (M.confirms d).ask = -1 := by
  unfold M.confirms
  split <;> exact ⟨rfl, rfl, rfl⟩
/-- an event behind which the device is on -/
theorem play_on (hI : M.Inv' d) {wait next age : Nat} (hd : DevAt W b t d.key d.F d.on wait next age) {p : M.Plan} (hp : M.planned d e = p) (hon : p.on = true) (herr : p.err ≠ 0 → p.text = ⟨#[]⟩ ∧ p.ask = -1) {l : List GW} (hl : Link l p)
    (hrf : ∀ (X : World) (_ : DevAt X b t d.key d.F d.on wait next age), Calls Tryz.prog 107 #[.pointer (some ⟨b, 0, none⟩), .int .i64 e.kind] X fun y w' => y = .returned (.int .i64 0) ∧ X = w')
    (hout : ∀ (X : World) (_ : DevAt X b t d.key d.F d.on wait next age), Calls Tryz.prog 109 #[.pointer (some ⟨b, 0, none⟩), evV e.kind e.n e.text e.cut e.torn] X fun y w' => OutRaw X p.on p.wait p.next p.age p.err p.text p.ask l y w') :
    Calls Tryz.prog 77 #[.pointer (some ⟨b, 0, none⟩), evV e.kind e.n e.text e.cut e.torn] W fun y w' => Played W b t d e y w' := by
  have hI2 := M.inv_do hI e
  have hst : (p.err : Int) = 0 → lastsB e.cut l.length = true → ∀ (X : World) (_ : DevAt X b t d.key (writtenF d.F l e.cut e.torn) p.on p.wait p.next p.age), Calls Tryz.prog 61 #[.pointer (some ⟨b, 0, none⟩)] X fun y w' => y = .returned (.agg #[.bool true, .int .i64 (M.fld (M.puts d.F p.ws) 2), .int .i64 (M.servedD (M.puts d.F p.ws)), .int .i64 (M.verOf (M.puts d.F p.ws) (M.servedD (M.puts d.F p.ws))), .int .i64 (M.verOf (M.puts d.F p.ws) (M.fld (M.puts d.F p.ws) 1)), .int .i64 (M.fld (M.puts d.F p.ws) 3), .int .i64 (if M.fld (M.puts d.F p.ws) 2 = 1 then (M.missing (M.puts d.F p.ws)).length else 0 : Nat)]) ∧ Below X.heap.size X w' := by
    intro _ hls X hX
    rw [lasts_cuts hl] at hls
    have hc : M.cuts e p.ws = false := by
      cases h : M.cuts e p.ws
      · rfl
      · rw [h] at hls; cases hls
    rw [written_is hl, hc, if_neg (by decide), hon] at hX
    have ed : (M.doM d e).1 = ⟨d.key, M.puts d.F p.ws, p.on, p.wait, p.next, p.age⟩ := by
      unfold M.doM
      rw [hp, hc, if_neg (by decide)]
    rw [ed] at hI2
    exact stat_on hI2 hX
  refine (rawDo hd e.kind e.n e.text e.cut e.torn hrf p.on p.wait p.next p.age p.err p.text p.ask l hl.1 hl.2.1 hout true _ _ _ _ _ _ hst).mono ?_
  intro y w' hy
  exact played_post hp hl herr (fun _ => ⟨rfl, rfl, rfl⟩) (by rw [if_pos hon]) hy
theorem devDo_any (hI : M.Inv' d) (hz : M.Tz d.F) (hk : d.key.size ≤ 16) (e : M.Ev) (ht : e.text.size ≤ maxLen) (hrel : DevRel W b t d) :
    Calls Tryz.prog 77 #[.pointer (some ⟨b, 0, none⟩), evV e.kind e.n e.text e.cut e.torn] W fun y w' => Played W b t d e y w' := by
  obtain ⟨wait, next, age, hd, hm⟩ := id hrel
  have hF := hI.2.1.bytes
  by_cases hkd : e.kind < 1 ∨ 7 < e.kind
  · have hp : M.planned d e = M.fails d 7 := if_pos hkd
    refine (rawDo_refused hd e.kind e.n e.text e.cut e.torn 7 (by decide) (fun X _ => refuse_kind e.kind hkd X b)).mono ?_
    rintro y w' ⟨hy, hb⟩
    exact played_fails (by decide) hp hrel hy hb
  by_cases ho : d.on = true
  · obtain ⟨rfl, rfl, rfl⟩ := hm ho
    by_cases hk2 : e.kind = 2
    · have hp : M.planned d e = M.fails d 9 := by unfold M.planned; rw [if_neg hkd, if_pos ⟨hk2, ho⟩]
      rw [ho] at hd
      refine (rawDo_refused hd e.kind e.n e.text e.cut e.torn 9 (by decide) (fun X hX => by rw [hk2]; exact refuse_on hX)).mono ?_
      rintro y w' ⟨hy, hb⟩
      exact played_fails (by decide) hp hrel hy hb
    have hrf : ∀ (X : World) (_ : DevAt X b t d.key d.F d.on d.wait d.next d.age), Calls Tryz.prog 107 #[.pointer (some ⟨b, 0, none⟩), .int .i64 e.kind] X fun y w' => y = .returned (.int .i64 0) ∧ X = w' := by
      intro X hX
      rw [ho] at hX
      exact refuse_no_on hX e.kind (by omega) (by omega) hk2
    have hrec : ∀ (X : World) (_ : DevAt X b t d.key d.F d.on d.wait d.next d.age), Calls Tryz.prog 80 #[.pointer (some ⟨b, 0, none⟩)] X fun y w' => y = .returned (recF d.F) ∧ Below X.heap.size X w' := fun X hX => devRecord_any hX hF
    have hp0 : M.planned d e = if e.kind = 1 then { M.idle d with on := false } else if e.kind = 3 then M.ticks d else if e.kind = 4 then M.infers d e.text else if e.kind = 5 then M.offers d e.text else if e.kind = 6 then M.takes d e.n e.text else M.confirms d := by
      unfold M.planned
      rw [if_neg hkd, if_neg (fun h => hk2 h.1), if_neg (fun h => by rw [ho] at h; cases h.2), if_neg hk2]
    by_cases h1 : e.kind = 1
    · rw [if_pos h1] at hp0
      have hl : Link [] (M.planned d e) := link_none (by rw [hp0]; rfl)
      refine (rawDo hd e.kind e.n e.text e.cut e.torn hrf false 0 0 0 0 ⟨#[]⟩ (-1) [] hl.1 hl.2.1 (fun X hX => by rw [h1]; exact outcome_1 hX e.n e.text e.cut e.torn (hrec)) false 0 0 0 0 0 0 (fun _ _ X hX => devStatus_off hX)).mono ?_
      intro y w' hy
      refine played_post (p := M.planned d e) (ver := 0) rfl hl (fun h => absurd rfl (by rw [hp0] at h; exact h)) (fun h => by rw [hp0] at h; cases h) (by rw [hp0]; rfl) (wait' := 0) (next' := 0) (age' := 0) ?_
      rw [hp0]
      exact hy
    rw [if_neg h1] at hp0
    by_cases h3 : e.kind = 3
    · rw [if_pos h3] at hp0
      obtain ⟨l, hl, hrun⟩ := ev_tick hI hz
      exact play_on hI hd hp0 (by rw [ticks_on]; exact ho) (ticks_err d) hl hrf (fun X hX => by rw [h3]; exact outcome_3 hX e.n e.text e.cut e.torn hrec _ _ _ _ _ _ _ l (fun X2 hX2 => hrun X2 b t hX2))
    rw [if_neg h3] at hp0
    by_cases h4 : e.kind = 4
    · rw [if_pos h4] at hp0
      obtain ⟨l, hl, hrun⟩ := ev_infer hI e.text ht
      refine play_on hI hd hp0 ho (fun h => ⟨?_, rfl⟩) hl hrf (fun X hX => by rw [h4]; exact outcome_4 hX e.n e.text e.cut e.torn hrec _ _ _ _ _ _ _ l (fun X2 hX2 => hrun X2 b t hX2))
      refine eval_no fun h0 => h ?_
      show (evalNum (M.imgOf d.F (M.servedD d.F)) e.text).toNat = 0
      rw [h0]
      rfl
    rw [if_neg h4] at hp0
    by_cases h5 : e.kind = 5
    · rw [if_pos h5] at hp0
      obtain ⟨l, hl, hrun⟩ := ev_offer hI hz hk e.text ht
      exact play_on hI hd hp0 (by rw [(offers_on d e.text).1]; exact ho) (fun _ => (offers_on d e.text).2) hl hrf (fun X hX => by rw [h5]; exact outcome_5 hX e.n e.text e.cut e.torn hrec _ _ _ _ _ _ _ l (fun X2 hX2 => hrun X2 b t hX2))
    rw [if_neg h5] at hp0
    by_cases h6 : e.kind = 6
    · rw [if_pos h6] at hp0
      obtain ⟨l, hl, hrun⟩ := ev_chunk hI e.n e.text ht
      exact play_on hI hd hp0 (by rw [(takes_on d e.n e.text).1]; exact ho) (fun _ => (takes_on d e.n e.text).2) hl hrf (fun X hX => by rw [h6]; exact outcome_6 hX e.n e.text e.cut e.torn hrec _ _ _ _ _ _ _ l (fun X2 hX2 => hrun X2 b t hX2))
    rw [if_neg h6] at hp0
    have h7 : e.kind = 7 := by omega
    obtain ⟨l, hl, hrun⟩ := ev_confirm hI
    exact play_on hI hd hp0 (by rw [(confirms_on d).1]; exact ho) (fun _ => (confirms_on d).2) hl hrf (fun X hX => by rw [h7]; exact outcome_7 hX e.n e.text e.cut e.torn hrec _ _ _ _ _ _ _ l (fun X2 hX2 => hrun X2 b t hX2))
  · have hof : d.on = false := by
      cases h : d.on
      · rfl
      · exact absurd h ho
    by_cases hk2 : e.kind = 2
    · have hp : M.planned d e = M.boots d := by
        unfold M.planned
        rw [if_neg hkd, if_neg (fun h => ho h.2), if_neg (fun h => h.1 hk2), if_neg (by omega), if_pos hk2]
      obtain ⟨l, hl, hrun⟩ := ev_boot hI
      refine play_on hI hd hp rfl (fun h => absurd rfl h) hl (fun X hX => ?_) (fun X hX => by rw [hk2]; exact outcome_2 hX e.n e.text e.cut e.torn (fun X2 hX2 => devRecord_any hX2 hF) _ _ _ _ _ _ _ l (fun X2 _ => hrun X2))
      rw [hk2]
      rw [hof] at hX
      exact refuse_no_off hX
    · have hp : M.planned d e = M.fails d 8 := by
        unfold M.planned
        rw [if_neg hkd, if_neg (fun h => hk2 h.1), if_pos ⟨hk2, hof⟩]
      rw [hof] at hd
      refine (rawDo_refused hd e.kind e.n e.text e.cut e.torn 8 (by decide) (fun X hX => refuse_off hX e.kind (by omega) (by omega) hk2)).mono ?_
      rintro y w' ⟨hy, hb⟩
      exact played_fails (by decide) hp hrel hy hb
end
end Go.Proofs.YtjfmiomopfjecabGreat

/- The calls of a device: Do, Status, Page. -/
namespace Go.Proofs.YtjfmiomopfjecabGreat
open Go.RowKit Go.Lib

/-- what a device tells -/
def statOf (d : M.Dev) : Value := if d.on = true then statV d.F (if M.fld d.F 2 = 1 then (M.missing d.F).length else 0) else statNo
section
variable {d : M.Dev} {W : World} {b : Nat} {t : TypeId}
theorem devStatus_any (hI : M.Inv' d) (hrel : DevRel W b t d) :
    Calls Tryz.prog 61 #[.pointer (some ⟨b, 0, none⟩)] W fun e w' => e = .returned (statOf d) ∧ Below W.heap.size W w' := by
  obtain ⟨x, y, z, hd, hm⟩ := hrel
  unfold statOf
  by_cases ho : d.on = true
  · rw [if_pos ho]
    rw [ho] at hd
    exact stat_on hI hd
  · rw [if_neg ho]
    have hof : d.on = false := by
      cases h : d.on
      · rfl
      · exact absurd h ho
    rw [hof] at hd
    exact devStatus_off hd
theorem statOf_shape (d : M.Dev) : ∃ (sb : Bool) (i1 i2 i3 i4 i5 i6 : Int), statOf d = .agg #[.bool sb, .int .i64 i1, .int .i64 i2, .int .i64 i3, .int .i64 i4, .int .i64 i5, .int .i64 i6] := by
  unfold statOf
  split
  · exact ⟨_, _, _, _, _, _, _, rfl⟩
  · exact ⟨_, _, _, _, _, _, _, rfl⟩
set_option maxRecDepth 10000 in
theorem slotsStatus_any (hI : M.Inv' d) (hrel : DevRel W b t d) :
    Calls Tryz.prog 43 #[.pointer (some ⟨b, 0, none⟩)] W fun e w' => e = .returned (statOf d) ∧ Below W.heap.size W w' := by
  have HR := hide hrel
  have HS := hide (fun (X : World) (hX : DevRel X b t d) => devStatus_any hI hX)
  obtain ⟨sb, i1, i2, i3, i4, i5, i6, e⟩ := statOf_shape d
  rw [e] at HS ⊢
  clear hrel hI e
  go_enter Tryz.func43, Tryz.ntmps43
  go_wp2_with fail
  refine (unhide HS _ (DevRel.kept (unhide HR) ((Below.refl _ _).alloc (Nat.le_refl _) _))).mono ?_
  rintro e w1 ⟨rfl, hb1⟩
  obtain ⟨k1, hs1, hb⟩ := blk1 hb1
  obtain ⟨hx1, hf1⟩ := block_facts k1
  have HB := hide hb
  clear hb hb1 k1
  have l1 : W.heap.size < w1.heap.size := (by omega); have n1 : ¬ W.heap.size = w1.heap.size := (by omega)
  go_wp2
  refine bodyPost_ret (v := .agg #[.bool sb, .int .i64 i1, .int .i64 i2, .int .i64 i3, .int .i64 i4, .int .i64 i5, .int .i64 i6]) (by simp [results, Tryz.results43, go_sem, hx1]) rfl ⟨rfl, ?_⟩
  repeat (first | with_reducible exact unhide HB | with_reducible exact Below.refl _ _ | with_reducible refine bdrew ?_ | (with_reducible refine brow ?_ ?_; (focus (first | omega | (simp; done) | (simp; omega)))) | (with_reducible refine bset ?_ ?_; (focus (first | omega | (simp; done) | (simp; omega)))) | (with_reducible refine balloc ?_ ?_; (focus (first | omega | (simp; done) | (simp; omega)))) | (with_reducible refine bvia (unhide HB1) ?_ ?_; (focus (first | omega | (simp; done) | (simp; omega)))) | (with_reducible refine bvia (unhide HB2) ?_ ?_; (focus (first | omega | (simp; done) | (simp; omega)))) | (with_reducible refine bvia (unhide HB3) ?_ ?_; (focus (first | omega | (simp; done) | (simp; omega)))) | (with_reducible refine bvia (unhide HB4) ?_ ?_; (focus (first | omega | (simp; done) | (simp; omega)))) | (with_reducible refine bvia (unhide HB5) ?_ ?_; (focus (first | omega | (simp; done) | (simp; omega)))) | (with_reducible refine bvia (unhide HB6) ?_ ?_; (focus (first | omega | (simp; done) | (simp; omega)))))
set_option maxRecDepth 10000 in
theorem slotsPage_any (hF : ∀ j, d.F j < 256) (hrel : DevRel W b t d) (i : Int) :
    Calls Tryz.prog 38 #[.pointer (some ⟨b, 0, none⟩), .int .i64 i] W fun e w' => e = .returned (.string (pageT d.F i)) ∧ W = w' := by
  obtain ⟨x, y, z, hd, hm⟩ := hrel
  have HP : Hid (Calls Tryz.prog 60 #[.pointer (some ⟨b, 0, none⟩), .int .i64 i] W fun e w' => e = .returned (.string (pageT d.F i)) ∧ W = w') := by
    have HD := hide hd
    have HF := hide hF
    clear hd hm
    show Calls _ _ _ _ _
    go_enter Tryz.func60, Tryz.ntmps60
    go_wp2_with fail
    refine (flashPage_any (unhide HD) (unhide HF) i).mono ?_
    rintro e w' ⟨rfl, rfl⟩
    generalize hT : pageT d.F i = T at *
    have HT := hide hT
    clear hT
    go_wp2
    go_ret
    exact ⟨ret_string HT.out.symm, rfl⟩
  clear hd hm hF
  go_enter Tryz.func38, Tryz.ntmps38
  go_wp2_with fail
  refine (unhide HP).mono ?_
  rintro e w' ⟨rfl, rfl⟩
  generalize hT : pageT d.F i = T at *
  have HT := hide hT
  clear hT
  go_wp2
  go_ret
  exact ⟨ret_string HT.out.symm, rfl⟩
set_option maxRecDepth 10000 in
set_option maxHeartbeats 1000000 in
theorem slotsDo_any (hI : M.Inv' d) (hz : M.Tz d.F) (hk : d.key.size ≤ 16) (e : M.Ev) (ht : e.text.size ≤ maxLen) (hrel : DevRel W b t d) :
    Calls Tryz.prog 57 #[.pointer (some ⟨b, 0, none⟩), evV e.kind e.n e.text e.cut e.torn] W fun y w' => Played W b t d e y w' := by
  have hlt := hrel.lt
  have HR := hide hrel
  have HDO := hide (fun (X : World) (hX : DevRel X b t d) => devDo_any hI hz hk e ht hX)
  clear hrel hI hz hk ht
  obtain ⟨k, n, tx, cut, torn⟩ := e
  dsimp only at *
  have rule : ∀ (X : World) (o : Nat), X.heap[W.heap.size]? = some (.cells #[.int .i64 k, .int .i64 n, .string tx, .int .i64 cut, .int .i64 torn] 74 (0, 0)) → X.cell? ⟨W.heap.size, o, none⟩ = (#[.int .i64 k, .int .i64 n, .string tx, .int .i64 cut, .int .i64 torn] : Array Value)[o]? := fun X o h => cell_in h o
  go_enter Tryz.func57, Tryz.ntmps57
  go_wp2_with fail
  go_region_held3 (fun X => X.heap[W.heap.size]? = some (.cells #[.int .i64 k, .int .i64 n, .string tx, .int .i64 cut, .int .i64 torn] 74 (0, 0))) (repeat (first | with_reducible exact hC1 | with_reducible exact drew_block (first_block _ _ _) | (with_reducible refine sblk ?_ ?_; (focus omega)))) ((go_at_call 77; refine (unhide HDO _ (DevRel.kept (unhide HR) ((((Below.refl _ _).alloc (Nat.le_refl _) _).alloc (by simp) _).drew))).mono ?_; rintro y w1 ⟨rfl, hr1, ho1⟩; have hC1 := (ho1.block W.heap.size (by simp; omega) (by omega)).trans (drew_block (first_block _ _ _)); have kR := (ho1.block (W.heap.size + 1) (by simp) (by omega)).trans (drew_block (second_block _ _ _)); have hxR := (block_facts kR).1; have hfR := (block_facts kR).2))
  all_goals
    have HOL : Hid (Only (· = b) W w1) := (Only.of (((Below.refl W.heap.size W).alloc (Nat.le_refl _) _).alloc (by simp) _).drew).trans ho1
    have HR1 := hide hr1
    have nb : ¬ W.heap.size + 1 = b := by omega
    have nb2 : ¬ b = W.heap.size + 1 := by omega
    clear hC1 kR hr1 ho1 rule HDO
    generalize hrp : (M.doM d ⟨k, n, tx, cut, torn⟩).2 = rp at *
    have HRP := hide hrp
    clear hrp
    go_wp2
    refine bodyPost_ret (v := rpV rp) (by simp [results, Tryz.results57, go_sem, hxR]) rfl ⟨by rw [HRP.out], ?_, ?_⟩
    · obtain ⟨x, y, z, hd, hm⟩ := unhide HR1
      refine ⟨x, y, z, ?_, hm⟩
      have KD : Hid (w1.heap[b]? = some (.cells (devCells (M.doM d ⟨k, n, tx, cut, torn⟩).1.key (M.doM d ⟨k, n, tx, cut, torn⟩).1.F (M.doM d ⟨k, n, tx, cut, torn⟩).1.on x y z) t (0, 0))) := hd
      unfold DevAt
      repeat (first | with_reducible exact unhide KD | (with_reducible refine lblk ?_; (focus (first | rfl | (simp; done)))) | with_reducible refine ablk ?_ | with_reducible refine drew_block ?_ | (with_reducible refine sblk ?_ ?_; (focus (first | omega | (simp; done) | (simp; omega)))))
    · repeat (first | with_reducible exact unhide HOL | with_reducible refine ol_drew ?_ | with_reducible refine ol_dev ?_ | (with_reducible refine ol_set ?_ ?_; (focus (first | omega | (simp; done) | (simp; omega)))) | with_reducible refine ol_alloc ?_ | with_reducible refine ol_via (unhide HB6) ?_ | with_reducible refine ol_via (unhide HB7) ?_)
end
end Go.Proofs.YtjfmiomopfjecabGreat

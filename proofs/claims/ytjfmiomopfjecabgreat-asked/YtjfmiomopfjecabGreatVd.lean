/- Texts laid together: RecThen, ManMath, ManLeaf, ManRead, ManUse. -/
import Derived.Test.YtjfmiomopfjecabGreatVc
import Derived.Test.YtjfmiomopfjecabGreatVb
import Derived.Test.YtjfmiomopfjecabGreatVa
/- Records that follow others, and the chunks that are there. -/
namespace Go.Proofs.YtjfmiomopfjecabGreat
open Go.RowKit Go.Lib

/- what lies in boxes behind a call that leaves them alone -/
theorem box1 {w w1 : World} {c1 : Array Value} {t1 : TypeId} (h : Below (w.alloc (.cells c1 t1)).heap.size (w.alloc (.cells c1 t1)) w1) :
    (∀ o, w1.cell? ⟨w.heap.size, o, none⟩ = c1[o]?) ∧ (∀ o, w1.frozen? ⟨w.heap.size, o, none⟩ = false) ∧ w.heap.size < w1.heap.size ∧ Below w.heap.size w w1 := by
  obtain ⟨a, b⟩ := block_facts ((h.block w.heap.size (by simp)).trans (last_block _ _ rfl))
  have hs := h.size
  simp only [World.size_alloc] at hs
  exact ⟨a, b, by omega, one_alloc (h.mono (by simp))⟩
theorem box2 {w w1 : World} {c1 c2 : Array Value} {t1 t2 : TypeId} (h : Below ((w.alloc (.cells c1 t1)).alloc (.cells c2 t2)).heap.size ((w.alloc (.cells c1 t1)).alloc (.cells c2 t2)) w1) :
    (∀ o, w1.cell? ⟨w.heap.size, o, none⟩ = c1[o]?) ∧ (∀ o, w1.frozen? ⟨w.heap.size, o, none⟩ = false) ∧ (∀ o, w1.cell? ⟨w.heap.size + 1, o, none⟩ = c2[o]?) ∧ (∀ o, w1.frozen? ⟨w.heap.size + 1, o, none⟩ = false) ∧ w.heap.size + 1 < w1.heap.size ∧ Below w.heap.size w w1 := by
  obtain ⟨a, b⟩ := block_facts ((h.block w.heap.size (by simp; omega)).trans (first_block _ _ _))
  obtain ⟨c, d⟩ := block_facts ((h.block (w.heap.size + 1) (by simp)).trans (last_block _ _ (by simp)))
  have hs := h.size
  simp only [World.size_alloc] at hs
  exact ⟨a, b, c, d, by omega, two_alloc (h.mono (by simp))⟩
theorem kept_block {X W : World} {g : Nat} {o : Obj} (h : Below X.heap.size X W) (hX : X.heap[g]? = some o) : W.heap[g]? = some o :=
  (h.block g (Array.getElem?_eq_some_iff.1 hX).1).trans hX
theorem drew_block {X : World} {g : Nat} {o : Obj} (hX : X.heap[g]? = some o) : X.drew.heap[g]? = some o := hX
theorem set_block {X : World} {g h o : Nat} {u : Value} {b : Obj} (hX : X.heap[g]? = some b) (hne : ¬ g = h) : (X.setCell ⟨h, o, none⟩ u).heap[g]? = some b := (Below.heap_setCell _ _ _ _ hne).trans hX
theorem alloc_block {X : World} {g : Nat} {o : Obj} (hX : X.heap[g]? = some o) (o2 : Obj) : (X.alloc o2).heap[g]? = some o :=
  (Below.heap_alloc _ _ _ (Array.getElem?_eq_some_iff.1 hX).1).trans hX
theorem blk1 {w w1 : World} {o1 : Obj} (h : Below (w.alloc o1).heap.size (w.alloc o1) w1) : w1.heap[w.heap.size]? = some o1 ∧ w.heap.size < w1.heap.size ∧ Below w.heap.size w w1 := by
  have hs := h.size
  simp only [World.size_alloc] at hs
  exact ⟨kept_block h (last_block _ _ rfl), by omega, one_alloc (h.mono (by simp))⟩
theorem blk2 {w w1 : World} {o1 o2 : Obj} (h : Below ((w.alloc o1).alloc o2).heap.size ((w.alloc o1).alloc o2) w1) : w1.heap[w.heap.size]? = some o1 ∧ w1.heap[w.heap.size + 1]? = some o2 ∧ w.heap.size + 1 < w1.heap.size ∧ Below w.heap.size w w1 := by
  have hs := h.size
  simp only [World.size_alloc] at hs
  exact ⟨kept_block h (first_block _ _ _), kept_block h (last_block _ _ (by simp)), by omega, two_alloc (h.mono (by simp))⟩
theorem blk3 {w w1 : World} {o1 o2 o3 : Obj} (h : Below (((w.alloc o1).alloc o2).alloc o3).heap.size (((w.alloc o1).alloc o2).alloc o3) w1) : w1.heap[w.heap.size]? = some o1 ∧ w1.heap[w.heap.size + 1]? = some o2 ∧ w1.heap[w.heap.size + 1 + 1]? = some o3 ∧ w.heap.size + 1 + 1 < w1.heap.size ∧ Below w.heap.size w w1 := by
  have hs := h.size
  simp only [World.size_alloc] at hs
  exact ⟨kept_block h (alloc_block (first_block _ _ _) _), kept_block h (alloc_block (last_block _ _ (by simp)) _), kept_block h (last_block _ _ (by simp)), by omega, two_alloc (((Below.refl _ _).alloc (by simp) _).trans (h.mono (by simp)))⟩
theorem bset {B : Nat} {w W : World} {g o : Nat} {v : Value} (hle : B ≤ g) (h : Below B w W) : Below B w (W.setCell ⟨g, o, none⟩ v) := h.setCell hle v
theorem balloc {B : Nat} {w W : World} {o : Obj} (hle : B ≤ W.heap.size) (h : Below B w W) : Below B w (W.alloc o) := h.alloc hle o
theorem bdrew {B : Nat} {w W : World} (h : Below B w W) : Below B w W.drew := h.drew
theorem bvia {B : Nat} {w X W : World} (hX : Below X.heap.size X W) (hle : B ≤ X.heap.size) (h : Below B w X) : Below B w W := h.trans (hX.mono hle)
set_option maxRecDepth 10000 in
set_option maxHeartbeats 1000000 in
theorem recWith_any (pg num kp ph tr s0 v0 s1 v1 th i : Nat) (w : World) (hp : pg ≤ 1) (hn : num < 256) (hth : th < 256) (hi : i < 6) (hno : th / 2 ^ i % 2 ≠ 1) :
    Calls Tryz.prog 168 #[recV pg num kp ph tr s0 v0 s1 v1 th, .int .i64 i] w fun e w' => e = .returned (recV (1 - pg : Nat) ((num + 1) % 256 : Nat) kp ph tr s0 v0 s1 v1 (th + 2 ^ i : Nat)) ∧ Below w.heap.size w w' := by
  have hB : 2 ^ i < 256 := Nat.lt_of_lt_of_le (Nat.pow_lt_pow_right (by omega) hi) (by decide)
  have HO : Hid (th ||| 2 ^ i = th + 2 ^ i) := or_bit hth hi hno
  have hor := M.or_i64 th (2 ^ i) (by omega) (by omega)
  have hbit := hide (fun W => recBit_any i W hi)
  clear hno
  generalize 2 ^ i = B at *
  go_enter Tryz.func168, Tryz.ntmps168
  go_wp2_with fail
  refine (recNext_any pg num kp ph tr s0 v0 s1 v1 th _ hp hn).mono ?_
  rintro e w1 ⟨rfl, hb⟩
  obtain ⟨hy, hfy, hz, hfz, hs1, hb1⟩ := box2 hb
  have HB := hide hb1
  have hn1 : ¬ w.heap.size + 1 = w1.heap.size := by omega
  clear hb hb1 hy hfy
  generalize hN : (num + 1) % 256 = N at *
  generalize hP : 1 - pg = P at *
  have HN := hide hN
  have HP := hide hP
  clear hN hP
  go_wp2_with fail
  go_region_with ((go_at_call 143; refine (unhide hbit _).mono ?_; rintro e w' ⟨rfl, rfl⟩))
  all_goals
    go_wp2
    refine bodyPost_ret (v := recV P N kp ph tr s0 v0 s1 v1 (th ||| B : Nat)) (by simp [results, Tryz.results168, go_sem, hz, hs1]) rfl ⟨ret_rec (by rw [HP.out]) (by rw [HN.out]) rfl rfl rfl rfl rfl rfl rfl (by rw [HO.out]), ?_⟩
    repeat (first | with_reducible exact unhide HB | with_reducible exact Below.refl _ _ | with_reducible refine bdrew ?_ | (with_reducible refine brow ?_ ?_; (focus (first | omega | (simp; done) | (simp; omega)))) | (with_reducible refine bset ?_ ?_; (focus (first | omega | (simp; done) | (simp; omega)))) | (with_reducible refine balloc ?_ ?_; (focus (first | omega | (simp; done) | (simp; omega)))) | (with_reducible refine bvia (unhide HB1) ?_ ?_; (focus (first | omega | (simp; done) | (simp; omega)))) | (with_reducible refine bvia (unhide HB2) ?_ ?_; (focus (first | omega | (simp; done) | (simp; omega)))) | (with_reducible refine bvia (unhide HB3) ?_ ?_; (focus (first | omega | (simp; done) | (simp; omega)))) | (with_reducible refine bvia (unhide HB4) ?_ ?_; (focus (first | omega | (simp; done) | (simp; omega)))) | (with_reducible refine bvia (unhide HB5) ?_ ?_; (focus (first | omega | (simp; done) | (simp; omega)))) | (with_reducible refine bvia (unhide HB6) ?_ ?_; (focus (first | omega | (simp; done) | (simp; omega)))))
set_option maxRecDepth 10000 in
theorem recTrying_any (pg num kp ph tr s0 v0 s1 v1 th s v : Nat) (w : World) (hp : pg ≤ 1) (hn : num < 256) :
    Calls Tryz.prog 196 #[recV pg num kp ph tr s0 v0 s1 v1 th, .agg #[.int .i64 s, .int .i64 v]] w fun e w' => e = .returned (recV (1 - pg : Nat) ((num + 1) % 256 : Nat) kp 2 3 (if kp = 0 then s0 else s : Nat) (if kp = 0 then v0 else v : Nat) (if kp = 0 then s else s1 : Nat) (if kp = 0 then v else v1 : Nat) 0) ∧ Below w.heap.size w w' := by
  by_cases h0 : kp = 0
  · subst h0
    rw [if_pos rfl, if_pos rfl, if_pos rfl, if_pos rfl]
    go_enter Tryz.func196, Tryz.ntmps196
    go_wp2_with fail
    refine (recPhase_any pg num 0 ph tr s0 v0 s1 v1 th 2 3 _ hp hn).mono ?_
    rintro e w1 ⟨rfl, hb1⟩
    obtain ⟨-, k2, k3, hs1, hb⟩ := blk3 hb1
    obtain ⟨hx2, hf2⟩ := block_facts k2
    obtain ⟨hx3, hf3⟩ := block_facts k3
    have HB := hide hb
    have l2 : w.heap.size + 1 < w1.heap.size := (by omega); have n2 : ¬ w.heap.size + 1 = w1.heap.size := (by omega)
    have l3 : w.heap.size + 1 + 1 < w1.heap.size := (by omega); have n3 : ¬ w.heap.size + 1 + 1 = w1.heap.size := (by omega)
    clear hb hb1 k2 k3
    generalize hN : (num + 1) % 256 = N at *; generalize hP : 1 - pg = P at *; have HN := hide hN; have HP := hide hP; clear hN hP
    go_wp2
    refine bodyPost_ret (v := recV P N 0 2 3 s0 v0 s v 0) (by simp [results, Tryz.results196, go_sem, *]) rfl ⟨ret_rec (by rw [HP.out]) (by rw [HN.out]) rfl rfl rfl rfl rfl rfl rfl rfl, ?_⟩
    repeat (first | with_reducible exact unhide HB | with_reducible exact Below.refl _ _ | with_reducible refine bdrew ?_ | (with_reducible refine brow ?_ ?_; (focus (first | omega | (simp; done) | (simp; omega)))) | (with_reducible refine bset ?_ ?_; (focus (first | omega | (simp; done) | (simp; omega)))) | (with_reducible refine balloc ?_ ?_; (focus (first | omega | (simp; done) | (simp; omega)))) | (with_reducible refine bvia (unhide HB1) ?_ ?_; (focus (first | omega | (simp; done) | (simp; omega)))) | (with_reducible refine bvia (unhide HB2) ?_ ?_; (focus (first | omega | (simp; done) | (simp; omega)))) | (with_reducible refine bvia (unhide HB3) ?_ ?_; (focus (first | omega | (simp; done) | (simp; omega)))) | (with_reducible refine bvia (unhide HB4) ?_ ?_; (focus (first | omega | (simp; done) | (simp; omega)))) | (with_reducible refine bvia (unhide HB5) ?_ ?_; (focus (first | omega | (simp; done) | (simp; omega)))) | (with_reducible refine bvia (unhide HB6) ?_ ?_; (focus (first | omega | (simp; done) | (simp; omega)))))
  · rw [if_neg h0, if_neg h0, if_neg h0, if_neg h0]
    have h1 : ¬ (kp : Int) = 0 := by omega
    go_enter Tryz.func196, Tryz.ntmps196
    go_wp2_with fail
    refine (recPhase_any pg num kp ph tr s0 v0 s1 v1 th 2 3 _ hp hn).mono ?_
    rintro e w1 ⟨rfl, hb1⟩
    obtain ⟨-, k2, k3, hs1, hb⟩ := blk3 hb1
    obtain ⟨hx2, hf2⟩ := block_facts k2
    obtain ⟨hx3, hf3⟩ := block_facts k3
    have HB := hide hb
    have l2 : w.heap.size + 1 < w1.heap.size := (by omega); have n2 : ¬ w.heap.size + 1 = w1.heap.size := (by omega)
    have l3 : w.heap.size + 1 + 1 < w1.heap.size := (by omega); have n3 : ¬ w.heap.size + 1 + 1 = w1.heap.size := (by omega)
    clear hb hb1 k2 k3
    generalize hN : (num + 1) % 256 = N at *; generalize hP : 1 - pg = P at *; have HN := hide hN; have HP := hide hP; clear hN hP
    go_wp2
    refine bodyPost_ret (v := recV P N kp 2 3 s v s1 v1 0) (by simp [results, Tryz.results196, go_sem, *]) rfl ⟨ret_rec (by rw [HP.out]) (by rw [HN.out]) rfl rfl rfl rfl rfl rfl rfl rfl, ?_⟩
    repeat (first | with_reducible exact unhide HB | with_reducible exact Below.refl _ _ | with_reducible refine bdrew ?_ | (with_reducible refine brow ?_ ?_; (focus (first | omega | (simp; done) | (simp; omega)))) | (with_reducible refine bset ?_ ?_; (focus (first | omega | (simp; done) | (simp; omega)))) | (with_reducible refine balloc ?_ ?_; (focus (first | omega | (simp; done) | (simp; omega)))) | (with_reducible refine bvia (unhide HB1) ?_ ?_; (focus (first | omega | (simp; done) | (simp; omega)))) | (with_reducible refine bvia (unhide HB2) ?_ ?_; (focus (first | omega | (simp; done) | (simp; omega)))) | (with_reducible refine bvia (unhide HB3) ?_ ?_; (focus (first | omega | (simp; done) | (simp; omega)))) | (with_reducible refine bvia (unhide HB4) ?_ ?_; (focus (first | omega | (simp; done) | (simp; omega)))) | (with_reducible refine bvia (unhide HB5) ?_ ?_; (focus (first | omega | (simp; done) | (simp; omega)))) | (with_reducible refine bvia (unhide HB6) ?_ ?_; (focus (first | omega | (simp; done) | (simp; omega)))))
set_option maxRecDepth 10000 in
theorem recConfirmed_any (pg num kp ph tr s0 v0 s1 v1 th : Nat) (w : World) (hp : pg ≤ 1) (hn : num < 256) (hk : kp ≤ 1) :
    Calls Tryz.prog 170 #[recV pg num kp ph tr s0 v0 s1 v1 th] w fun e w' => e = .returned (recV (1 - pg : Nat) ((num + 1) % 256 : Nat) (1 - kp : Nat) 0 0 s0 v0 s1 v1 0) ∧ Below w.heap.size w w' := by
  go_enter Tryz.func170, Tryz.ntmps170
  go_wp2_with fail
  refine (recSteady_any pg num kp ph tr s0 v0 s1 v1 th _ hp hn).mono ?_
  rintro e w1 ⟨rfl, hb1⟩
  obtain ⟨k1, k2, hs1, hb⟩ := blk2 hb1
  obtain ⟨hx1, hf1⟩ := block_facts k1
  have HB := hide hb
  have K2 := hide k2
  have l1 : w.heap.size < w1.heap.size := (by omega); have n1 : ¬ w.heap.size = w1.heap.size := (by omega)
  have l2 : w.heap.size + 1 < w1.heap.size := (by omega); have n2 : ¬ w.heap.size + 1 = w1.heap.size := (by omega)
  clear hb hb1 k1 k2
  generalize hN : (num + 1) % 256 = N at *; generalize hP : 1 - pg = P at *; have HN := hide hN; have HP := hide hP; clear hN hP
  go_wp2_with fail
  refine (recOther_any pg num kp ph tr s0 v0 s1 v1 th _ hk).mono ?_
  rintro e w2 ⟨rfl, hb2⟩
  clear hx1 hf1
  obtain ⟨hx2, hf2⟩ := block_facts (kept_block hb2 (alloc_block (unhide K2) _))
  obtain ⟨k3, hs2, hb⟩ := blk1 hb2
  obtain ⟨hx3, hf3⟩ := block_facts k3
  have HB2 := hide hb
  clear hb hb2 k3
  have l3 : w1.heap.size < w2.heap.size := (by omega); have n3 : ¬ w1.heap.size = w2.heap.size := (by omega)
  have l4 : w.heap.size + 1 < w2.heap.size := (by omega); have n4 : ¬ w.heap.size + 1 = w2.heap.size := (by omega)
  generalize hK : 1 - kp = K at *
  have HK := hide hK
  clear hK
  go_wp2
  refine bodyPost_ret (v := recV P N K 0 0 s0 v0 s1 v1 0) (by simp [results, Tryz.results170, go_sem, *]) rfl ⟨ret_rec (by rw [HP.out]) (by rw [HN.out]) (by rw [HK.out]) rfl rfl rfl rfl rfl rfl rfl, ?_⟩
  repeat (first | with_reducible exact unhide HB | with_reducible exact Below.refl _ _ | with_reducible refine bdrew ?_ | (with_reducible refine brow ?_ ?_; (focus (first | omega | (simp; done) | (simp; omega)))) | (with_reducible refine bset ?_ ?_; (focus (first | omega | (simp; done) | (simp; omega)))) | (with_reducible refine balloc ?_ ?_; (focus (first | omega | (simp; done) | (simp; omega)))) | (with_reducible refine bvia (unhide HB1) ?_ ?_; (focus (first | omega | (simp; done) | (simp; omega)))) | (with_reducible refine bvia (unhide HB2) ?_ ?_; (focus (first | omega | (simp; done) | (simp; omega)))) | (with_reducible refine bvia (unhide HB3) ?_ ?_; (focus (first | omega | (simp; done) | (simp; omega)))) | (with_reducible refine bvia (unhide HB4) ?_ ?_; (focus (first | omega | (simp; done) | (simp; omega)))) | (with_reducible refine bvia (unhide HB5) ?_ ?_; (focus (first | omega | (simp; done) | (simp; omega)))) | (with_reducible refine bvia (unhide HB6) ?_ ?_; (focus (first | omega | (simp; done) | (simp; omega)))))
/-- how many of the first n chunks are not there; the first of them -/
def missN (th n : Nat) : Nat := ((List.range n).filter fun i => decide (th / 2 ^ i % 2 = 0)).length
theorem missN_succ (th n : Nat) : missN th (n + 1) = missN th n + if th / 2 ^ n % 2 = 0 then 1 else 0 := by
  unfold missN
  rw [List.range_succ, List.filter_append, List.length_append]
  by_cases h : th / 2 ^ n % 2 = 0
  · rw [if_pos h, List.filter_cons_of_pos (by simpa using h)]; rfl
  · rw [if_neg h, List.filter_cons_of_neg (by simpa using h)]; rfl
theorem missN_le (th n : Nat) : missN th n ≤ n := by
  unfold missN
  exact Nat.le_trans (List.length_filter_le _ _) (by simp)
set_option maxRecDepth 10000 in
theorem recMissing_any (pg num kp ph tr s0 v0 s1 v1 th n : Nat) (w : World) (hth : th < 256) (hn : n ≤ 6) :
    Calls Tryz.prog 84 #[recV pg num kp ph tr s0 v0 s1 v1 th, .int .i64 n] w fun e w' => e = .returned (.int .i64 (missN th n)) ∧ Below w.heap.size w w' := by
  go_enter Tryz.func84, Tryz.ntmps84
  go_wp2_with fail
  go_loopw [5, 6] (fun c i wr => ∃ k : Nat, k ≤ n ∧ i = .int .i64 k ∧ c = .int .i64 (missN th k) ∧ Below (w.heap.size + 1) (w.alloc (.cells #[.int .i64 pg, .int .i64 num, .int .i64 kp, .int .i64 ph, .int .i64 tr, .int .i64 s0, .int .i64 v0, .int .i64 s1, .int .i64 v1, .int .i64 th] 133)) wr) (fun _ i _ => n - (intOf i).toNat)
  case atStart => exact ⟨0, by omega, rfl, rfl, Below.refl _ _⟩
  case round =>
    obtain ⟨k, hk, rfl, rfl, hbel⟩ := hrel
    have hc := box_cell hbel
    have hle := missN_le th k
    by_cases hlt : k < n
    · have HS := hide (missN_succ th k)
      have HBel := hide hbel
      clear hbel
      by_cases hb : th / 2 ^ k % 2 = 1
      · have HD : Hid (decide (th / 2 ^ k % 2 = 1) = true) := decide_eq_true hb
        have HS2 : Hid (missN th (k + 1) = missN th k) := by rw [HS.out, if_neg (by omega)]; rfl
        clear HS hb
        generalize missN th k = m at *
        go_wp2_with fail
        refine (recHas_any pg num kp ph tr s0 v0 s1 v1 th k _ hth (by omega)).mono ?_
        rintro e w1 ⟨rfl, hb1⟩
        rw [HD.out]
        have HB1 := hide ((unhide HBel).trans (hb1.mono (by have := (unhide HBel).size; simp at this; omega)))
        clear hb1
        go_wp2
        go_roundw
        case rel => exact ⟨k + 1, by omega, by go_num, by rw [HS2.out], unhide HB1⟩
        case measure => simp [intOf]; omega
      · have HD : Hid (decide (th / 2 ^ k % 2 = 1) = false) := decide_eq_false hb
        have HS2 : Hid (missN th (k + 1) = missN th k + 1) := by rw [HS.out, if_pos (by omega)]; rfl
        clear HS hb
        generalize missN th k = m at *
        go_wp2_with fail
        refine (recHas_any pg num kp ph tr s0 v0 s1 v1 th k _ hth (by omega)).mono ?_
        rintro e w1 ⟨rfl, hb1⟩
        rw [HD.out]
        have HB1 := hide ((unhide HBel).trans (hb1.mono (by have := (unhide HBel).size; simp at this; omega)))
        clear hb1
        go_wp2
        go_roundw
        case rel => exact ⟨k + 1, by omega, by go_num, by rw [HS2.out]; go_num, unhide HB1⟩
        case measure => simp [intOf]; omega
    · have hkn : k = n := by omega
      subst hkn
      have HB : Hid (Below w.heap.size w wr) := one_alloc hbel
      clear hbel
      go_wp2
      go_ret
      exact ⟨rfl, unhide HB⟩
set_option maxRecDepth 10000 in
theorem recWanted_some (pg num kp ph tr s0 v0 s1 v1 th n i : Nat) (w : World) (hth : th < 256) (hn : n ≤ 6) (hi : i < n) (hno : th / 2 ^ i % 2 = 0) (hall : ∀ j, j < i → th / 2 ^ j % 2 = 1) :
    Calls Tryz.prog 184 #[recV pg num kp ph tr s0 v0 s1 v1 th, .int .i64 n] w fun e w' => e = .returned (.int .i64 i) ∧ Below w.heap.size w w' := by
  have HA := hide hall
  have HNo := hide hno
  clear hall hno
  go_enter Tryz.func184, Tryz.ntmps184
  go_wp2_with fail
  go_loopw [5] (fun i' wr => ∃ k : Nat, k ≤ i ∧ i' = .int .i64 k ∧ Below (w.heap.size + 1) (w.alloc (.cells #[.int .i64 pg, .int .i64 num, .int .i64 kp, .int .i64 ph, .int .i64 tr, .int .i64 s0, .int .i64 v0, .int .i64 s1, .int .i64 v1, .int .i64 th] 133)) wr) (fun i' _ => n - (intOf i').toNat)
  case atStart => exact ⟨0, by omega, rfl, Below.refl _ _⟩
  case round =>
    obtain ⟨k, hk, rfl, hbel⟩ := hrel
    have hc := box_cell hbel
    have hlt : k < n := by omega
    have HBel := hide hbel
    clear hbel
    by_cases hki : k < i
    · have HD : Hid (decide (th / 2 ^ k % 2 = 1) = true) := decide_eq_true (unhide HA k hki)
      go_wp2_with fail
      refine (recHas_any pg num kp ph tr s0 v0 s1 v1 th k _ hth (by omega)).mono ?_
      rintro e w1 ⟨rfl, hb1⟩
      rw [HD.out]
      have HB1 := hide ((unhide HBel).trans (hb1.mono (by have := (unhide HBel).size; simp at this; omega)))
      clear hb1
      go_wp2
      go_roundw
      case rel => exact ⟨k + 1, by omega, by go_num, unhide HB1⟩
      case measure => simp [intOf]; omega
    · have hkn : k = i := by omega
      subst hkn
      have HD : Hid (decide (th / 2 ^ k % 2 = 1) = false) := decide_eq_false (by have := HNo.out; omega)
      go_wp2_with fail
      refine (recHas_any pg num kp ph tr s0 v0 s1 v1 th k _ hth (by omega)).mono ?_
      rintro e w1 ⟨rfl, hb1⟩
      rw [HD.out]
      have HB1 := hide (one_alloc ((unhide HBel).trans (hb1.mono (by have := (unhide HBel).size; simp at this; omega))))
      clear hb1
      go_wp2
      go_ret
      exact ⟨rfl, unhide HB1⟩
set_option maxRecDepth 10000 in
theorem recWanted_none (pg num kp ph tr s0 v0 s1 v1 th n : Nat) (w : World) (hth : th < 256) (hn : n ≤ 6) (hall : ∀ j, j < n → th / 2 ^ j % 2 = 1) :
    Calls Tryz.prog 184 #[recV pg num kp ph tr s0 v0 s1 v1 th, .int .i64 n] w fun e w' => e = .returned (.int .i64 (-1)) ∧ Below w.heap.size w w' := by
  have HA := hide hall
  clear hall
  go_enter Tryz.func184, Tryz.ntmps184
  go_wp2_with fail
  go_loopw [5] (fun i' wr => ∃ k : Nat, k ≤ n ∧ i' = .int .i64 k ∧ Below (w.heap.size + 1) (w.alloc (.cells #[.int .i64 pg, .int .i64 num, .int .i64 kp, .int .i64 ph, .int .i64 tr, .int .i64 s0, .int .i64 v0, .int .i64 s1, .int .i64 v1, .int .i64 th] 133)) wr) (fun i' _ => n - (intOf i').toNat)
  case atStart => exact ⟨0, by omega, rfl, Below.refl _ _⟩
  case round =>
    obtain ⟨k, hk, rfl, hbel⟩ := hrel
    have hc := box_cell hbel
    by_cases hlt : k < n
    · have HBel := hide hbel
      clear hbel
      have HD : Hid (decide (th / 2 ^ k % 2 = 1) = true) := decide_eq_true (unhide HA k hlt)
      go_wp2_with fail
      refine (recHas_any pg num kp ph tr s0 v0 s1 v1 th k _ hth (by omega)).mono ?_
      rintro e w1 ⟨rfl, hb1⟩
      rw [HD.out]
      have HB1 := hide ((unhide HBel).trans (hb1.mono (by have := (unhide HBel).size; simp at this; omega)))
      clear hb1
      go_wp2
      go_roundw
      case rel => exact ⟨k + 1, by omega, by go_num, unhide HB1⟩
      case measure => simp [intOf]; omega
    · have HB := hide (one_alloc hbel)
      clear hbel
      go_wp2
      go_ret
      exact ⟨rfl, unhide HB⟩
end Go.Proofs.YtjfmiomopfjecabGreat

/- Manifests in plain words, as the program reads them: what is beyond a text counts as 0. -/
namespace Go.Proofs.YtjfmiomopfjecabGreat.M

def numAt (g : Nat → Nat) (i : Nat) : Nat := g i * 256 + g (i + 1)
def sealX (g : Nat → Nat) : Option Nat :=
  if g 4 < 1 ∨ 96 < g 4 ∨ g 5 < 1 ∨ 96 < g 5 then none
  else if g (8 + 2 * chunksN (g 4)) = 0 then some (9 + 2 * chunksN (g 4))
  else if g (8 + 2 * chunksN (g 4)) = 1 then
    (if 8 < g (9 + 2 * chunksN (g 4)) ∨ 8 < g (10 + 2 * chunksN (g 4)) then none
     else some (11 + 2 * chunksN (g 4) + g (9 + 2 * chunksN (g 4)) + g (10 + 2 * chunksN (g 4))))
  else none
theorem sealX_of {g : Nat → Nat} {L at_ : Nat} (h : sealOf g L = some at_) : sealX g = some at_ := by
  unfold sealOf at h
  unfold sealX
  by_cases h1 : L ≤ 5 ∨ g 4 < 1 ∨ 96 < g 4 ∨ g 5 < 1 ∨ 96 < g 5
  · rw [if_pos h1] at h; cases h
  rw [if_neg h1] at h
  rw [if_neg (by omega)]
  by_cases h2 : L ≤ 8 + 2 * chunksN (g 4)
  · rw [if_pos h2] at h; cases h
  rw [if_neg h2] at h
  by_cases h3 : g (8 + 2 * chunksN (g 4)) = 0
  · rw [if_pos h3] at h ⊢; exact h
  rw [if_neg h3] at h ⊢
  by_cases h4 : g (8 + 2 * chunksN (g 4)) = 1
  · rw [if_pos h4] at h ⊢
    by_cases h5 : L ≤ 8 + 2 * chunksN (g 4) + 2 ∨ 8 < g (9 + 2 * chunksN (g 4)) ∨ 8 < g (10 + 2 * chunksN (g 4))
    · rw [if_pos h5] at h; cases h
    · rw [if_neg h5] at h
      rw [if_neg (by omega)]
      exact h
  · rw [if_neg h4] at h; cases h
theorem sealX_le {g : Nat → Nat} {at_ : Nat} (h : sealX g = some at_) : at_ ≤ 39 ∧ 9 + 2 * chunksN (g 4) ≤ at_ ∧ 1 ≤ g 4 ∧ g 4 ≤ 96 ∧ 1 ≤ g 5 ∧ g 5 ≤ 96 ∧ chunksN (g 4) ≤ 6 := by
  unfold sealX at h
  by_cases h1 : g 4 < 1 ∨ 96 < g 4 ∨ g 5 < 1 ∨ 96 < g 5
  · rw [if_pos h1] at h; cases h
  rw [if_neg h1] at h
  have hc : chunksN (g 4) ≤ 6 := by unfold chunksN; omega
  by_cases h3 : g (8 + 2 * chunksN (g 4)) = 0
  · rw [if_pos h3] at h
    have := Option.some.inj h
    omega
  rw [if_neg h3] at h
  by_cases h4 : g (8 + 2 * chunksN (g 4)) = 1
  · rw [if_pos h4] at h
    by_cases h5 : 8 < g (9 + 2 * chunksN (g 4)) ∨ 8 < g (10 + 2 * chunksN (g 4))
    · rw [if_pos h5] at h; cases h
    · rw [if_neg h5] at h
      have := Option.some.inj h
      omega
  · rw [if_neg h4] at h; cases h
/-- the two ways to read a manifest come to the same -/
theorem sealOf_x {g : Nat → Nat} {L at_ : Nat} (h : sealX g = some at_) (hL : at_ ≤ L) : sealOf g L = some at_ := by
  have hle := sealX_le h
  unfold sealX at h
  unfold sealOf
  by_cases h1 : g 4 < 1 ∨ 96 < g 4 ∨ g 5 < 1 ∨ 96 < g 5
  · rw [if_pos h1] at h; cases h
  rw [if_neg h1] at h
  rw [if_neg (by omega), if_neg (by omega)]
  by_cases h3 : g (8 + 2 * chunksN (g 4)) = 0
  · rw [if_pos h3] at h ⊢; exact h
  rw [if_neg h3] at h ⊢
  by_cases h4 : g (8 + 2 * chunksN (g 4)) = 1
  · rw [if_pos h4] at h ⊢
    by_cases h5 : 8 < g (9 + 2 * chunksN (g 4)) ∨ 8 < g (10 + 2 * chunksN (g 4))
    · rw [if_pos h5] at h; cases h
    · rw [if_neg h5] at h
      have := Option.some.inj h
      rw [if_neg (by omega)]
      exact h
  · rw [if_neg h4] at h; cases h
def isMan (key s : ByteArray) : Bool :=
  match sealX (bz s) with
  | none => false
  | some at_ => decide (s.size = at_ + 2) && decide (bz s at_ * 256 + bz s (at_ + 1) = crc (key ++ mk at_ (bz s)).data.toList)
theorem isMan_is (key s : ByteArray) : isMan key s = isManifest key s := by
  unfold isMan isManifest
  cases h : sealX (bz s) with
  | none =>
    cases h2 : sealOf (bz s) s.size with
    | none => rfl
    | some a => rw [sealX_of h2] at h; cases h
  | some at_ =>
    by_cases hs : s.size = at_ + 2
    · rw [sealOf_x h (by omega)]
    · cases h2 : sealOf (bz s) s.size with
      | none => simp [hs]
      | some a =>
        have e := sealX_of h2
        rw [h] at e
        have e2 := Option.some.inj e
        subst e2
        rfl
/-- the sums of the first k chunks, the example -/
def sumsL (g : Nat → Nat) (k : Nat) : List Int := (List.range k).map fun i => (numAt g (8 + 2 * i) : Int)
theorem sumsL_succ (g : Nat → Nat) (k : Nat) : sumsL g (k + 1) = sumsL g k ++ [(numAt g (8 + 2 * k) : Int)] := by
  unfold sumsL
  rw [List.range_succ, List.map_append]
  rfl
theorem sumsL_length (g : Nat → Nat) (k : Nat) : (sumsL g k).length = k := by simp [sumsL]
theorem sumsL_at (g : Nat → Nat) {k i : Nat} (h : i < k) : (sumsL g k).getD i 0 = (numAt g (8 + 2 * i) : Int) := by simp [sumsL, h]
def exB (g : Nat → Nat) : Bool := decide (g (8 + 2 * chunksN (g 4)) = 1)
def exQ (g : Nat → Nat) : ByteArray := if g (8 + 2 * chunksN (g 4)) = 1 then mk (g (9 + 2 * chunksN (g 4))) fun j => g (11 + 2 * chunksN (g 4) + j) else ⟨#[]⟩
def exA (g : Nat → Nat) : ByteArray := if g (8 + 2 * chunksN (g 4)) = 1 then mk (g (10 + 2 * chunksN (g 4))) fun j => g (11 + 2 * chunksN (g 4) + g (9 + 2 * chunksN (g 4)) + j) else ⟨#[]⟩
end Go.Proofs.YtjfmiomopfjecabGreat.M

/- Manifests, walked. -/
namespace Go.Proofs.YtjfmiomopfjecabGreat
open Go.RowKit Go.Lib

abbrev manC (ver base ps is sm : Int) (v : Value) (ex : Bool) (q a : ByteArray) : Array Value := #[.int .i64 ver, .int .i64 base, .int .i64 ps, .int .i64 is, .int .i64 sm, v, .bool ex, .string q, .string a]
abbrev manV (ver base ps is sm : Int) (v : Value) (ex : Bool) (q a : ByteArray) : Value := .agg #[.int .i64 ver, .int .i64 base, .int .i64 ps, .int .i64 is, .int .i64 sm, v, .bool ex, .string q, .string a]
abbrev manZ : Value := manV 0 0 0 0 0 (.slice none 0 0) false ⟨#[]⟩ ⟨#[]⟩
/-- the manifest that a text tells, its sums in the slice v -/
abbrev manOf (g : Nat → Nat) (v : Value) : Value := manV (M.numAt g 0) (M.numAt g 2) (g 4) (g 5) (M.numAt g 6) v (M.exB g) (M.exQ g) (M.exA g)
theorem ret_man {a0 a1 a2 a3 a4 b0 b1 b2 b3 b4 : Int} {v : Value} {x y : Bool} {q r s t : ByteArray} (h0 : a0 = b0) (h1 : a1 = b1) (h2 : a2 = b2) (h3 : a3 = b3) (h4 : a4 = b4) (h5 : x = y) (h6 : q = r) (h7 : s = t) :
    manV a0 a1 a2 a3 a4 v x q s = manV b0 b1 b2 b3 b4 v y r t := by rw [h0, h1, h2, h3, h4, h5, h6, h7]
set_option maxRecDepth 10000 in
theorem manHead_any (s : ByteArray) (w : World) (hs : s.size ≤ maxLen) :
    Calls Tryz.prog 176 #[.string s] w fun e w' => e = .returned (manV (M.numAt (M.bz s) 0) (M.numAt (M.bz s) 2) (M.bz s 4) (M.bz s 5) (M.numAt (M.bz s) 6) (.slice none 0 0) false ⟨#[]⟩ ⟨#[]⟩) ∧ Below w.heap.size w w' := by
  have HL := hide hs
  go_enter Tryz.func176, Tryz.ntmps176
  go_wp2_with fail
  refine (wordNumber_any s _ 0 _ (unhide HL) rfl (by omega)).mono ?_
  rintro e w' ⟨rfl, rfl⟩
  go_wp2_with fail
  refine (wordNumber_any s _ 2 _ (unhide HL) rfl (by omega)).mono ?_
  rintro e w' ⟨rfl, rfl⟩
  go_wp2_with fail
  refine (wordByte_at s _ 4 _ (unhide HL) rfl).mono ?_
  rintro e w' ⟨rfl, rfl⟩
  go_wp2_with fail
  refine (wordByte_at s _ 5 _ (unhide HL) rfl).mono ?_
  rintro e w' ⟨rfl, rfl⟩
  go_wp2_with fail
  refine (wordNumber_any s _ 6 _ (unhide HL) rfl (by omega)).mono ?_
  rintro e w' ⟨rfl, rfl⟩
  go_wp2
  refine bodyPost_ret (v := manV (M.bz s 0 * 256 + M.bz s 1 : Nat) (M.bz s 2 * 256 + M.bz s 3 : Nat) (M.bz s 4) (M.bz s 5) (M.bz s 6 * 256 + M.bz s 7 : Nat) (.slice none 0 0) false ⟨#[]⟩ ⟨#[]⟩) (by simp [results, Tryz.results176, go_sem]) rfl ⟨rfl, ?_⟩
  repeat (first | with_reducible exact unhide HB | with_reducible exact Below.refl _ _ | with_reducible refine bdrew ?_ | (with_reducible refine brow ?_ ?_; (focus (first | omega | (simp; done) | (simp; omega)))) | (with_reducible refine bset ?_ ?_; (focus (first | omega | (simp; done) | (simp; omega)))) | (with_reducible refine balloc ?_ ?_; (focus (first | omega | (simp; done) | (simp; omega)))) | (with_reducible refine bvia (unhide HB1) ?_ ?_; (focus (first | omega | (simp; done) | (simp; omega)))) | (with_reducible refine bvia (unhide HB2) ?_ ?_; (focus (first | omega | (simp; done) | (simp; omega)))) | (with_reducible refine bvia (unhide HB3) ?_ ?_; (focus (first | omega | (simp; done) | (simp; omega)))) | (with_reducible refine bvia (unhide HB4) ?_ ?_; (focus (first | omega | (simp; done) | (simp; omega)))) | (with_reducible refine bvia (unhide HB5) ?_ ?_; (focus (first | omega | (simp; done) | (simp; omega)))) | (with_reducible refine bvia (unhide HB6) ?_ ?_; (focus (first | omega | (simp; done) | (simp; omega)))))
set_option maxRecDepth 10000 in
theorem manChunks_any (ver base sm is : Int) (ps : Nat) (v : Value) (ex : Bool) (q a : ByteArray) (w : World) (hp : ps ≤ 255) :
    Calls Tryz.prog 85 #[manV ver base ps is sm v ex q a] w fun e w' => e = .returned (.int .i64 (M.chunksN ps)) ∧ Below w.heap.size w w' := by
  go_enter Tryz.func85, Tryz.ntmps85
  go_wp2_with fail
  refine (needed_any ps _ (by omega)).mono ?_
  rintro e w' ⟨rfl, rfl⟩
  generalize hc : M.chunksN ps = c at *
  have HC := hide hc
  clear hc
  go_wp2
  go_ret
  exact ⟨ret_int (by rw [HC.out]), (Below.refl _ _).alloc (Nat.le_refl _) _⟩
set_option maxRecDepth 10000 in
theorem manSize_any (ver base sm is : Int) (ps i : Nat) (v : Value) (ex : Bool) (q a : ByteArray) (w : World) (hp : ps ≤ 255) (hi : i ≤ 10) (hle : 16 * i ≤ ps) :
    Calls Tryz.prog 188 #[manV ver base ps is sm v ex q a, .int .i64 i] w fun e w' => e = .returned (.int .i64 (M.chunkLen ps i)) ∧ Below w.heap.size w w' := by
  have HE : Hid (M.chunkLen ps i = min 16 (ps - 16 * i)) := rfl
  by_cases h : 16 < ps - 16 * i
  · have h1 : (16 : Int) < (ps : Int) - (i : Int) * 16 := by omega
    go_enter Tryz.func188, Tryz.ntmps188
    go_wp2
    go_ret
    exact ⟨ret_int (by rw [HE.out]; omega), (Below.refl _ _).alloc (Nat.le_refl _) _⟩
  · have h1 : ¬ (16 : Int) < (ps : Int) - (i : Int) * 16 := by omega
    go_enter Tryz.func188, Tryz.ntmps188
    go_wp2
    go_ret
    exact ⟨ret_int (by rw [HE.out]; omega), (Below.refl _ _).alloc (Nat.le_refl _) _⟩
theorem ret_man3 {u v : Value} {n m : Int} {b : Bool} (h : u = v) (h2 : n = m) : Ending.returned (.tuple #[u, .int .i64 n, .bool b]) = .returned (.tuple #[v, .int .i64 m, .bool b]) := by rw [h, h2]
set_option maxRecDepth 10000 in
theorem manWith_no (ver base ps is sm : Int) (p : Option Addr) (n c : Nat) (s : ByteArray) (at_ : Nat) (k : Int) (w : World) (hs : s.size ≤ maxLen) (hk : k = at_) (ha : at_ ≤ 1000) (h : 8 < M.bz s at_ ∨ 8 < M.bz s (at_ + 1)) :
    Calls Tryz.prog 177 #[manV ver base ps is sm (.slice p n c) false ⟨#[]⟩ ⟨#[]⟩, .string s, .int .i64 k] w fun e w' => e = .returned (.tuple #[manZ, .int .i64 0, .bool false]) ∧ Below w.heap.size w w' := by
  have HL := hide hs
  subst hk
  have hq := M.bz_lt s at_
  have hr := M.bz_lt s (at_ + 1)
  by_cases h8 : 8 < M.bz s at_
  all_goals
    go_enter Tryz.func177, Tryz.ntmps177
    go_wp2_with fail
    refine (wordByte_at s _ at_ _ (unhide HL) rfl).mono ?_
    rintro e w' ⟨rfl, rfl⟩
    generalize M.bz s at_ = q at *
    go_wp2_with fail
    refine (wordByte_at s _ (at_ + 1) _ (unhide HL) (by omega)).mono ?_
    rintro e w' ⟨rfl, rfl⟩
    generalize M.bz s (at_ + 1) = r at *
    first
    | (have h9 : (8 : Int) < (q : Int) := (by omega); go_wp2; refine bodyPost_ret (v := .tuple #[manZ, .int .i64 0, .bool false]) (by simp [results, Tryz.results177, go_sem]) rfl ⟨rfl, ?_⟩; repeat (first | with_reducible exact unhide HB | with_reducible exact Below.refl _ _ | with_reducible refine bdrew ?_ | (with_reducible refine brow ?_ ?_; (focus (first | omega | (simp; done) | (simp; omega)))) | (with_reducible refine bset ?_ ?_; (focus (first | omega | (simp; done) | (simp; omega)))) | (with_reducible refine balloc ?_ ?_; (focus (first | omega | (simp; done) | (simp; omega)))) | (with_reducible refine bvia (unhide HB1) ?_ ?_; (focus (first | omega | (simp; done) | (simp; omega)))) | (with_reducible refine bvia (unhide HB2) ?_ ?_; (focus (first | omega | (simp; done) | (simp; omega)))) | (with_reducible refine bvia (unhide HB3) ?_ ?_; (focus (first | omega | (simp; done) | (simp; omega)))) | (with_reducible refine bvia (unhide HB4) ?_ ?_; (focus (first | omega | (simp; done) | (simp; omega)))) | (with_reducible refine bvia (unhide HB5) ?_ ?_; (focus (first | omega | (simp; done) | (simp; omega)))) | (with_reducible refine bvia (unhide HB6) ?_ ?_; (focus (first | omega | (simp; done) | (simp; omega))))))
    | (have h9 : ¬ (8 : Int) < (q : Int) := (by omega); have h10 : (8 : Int) < (r : Int) := (by omega); go_wp2; refine bodyPost_ret (v := .tuple #[manZ, .int .i64 0, .bool false]) (by simp [results, Tryz.results177, go_sem]) rfl ⟨rfl, ?_⟩; repeat (first | with_reducible exact unhide HB | with_reducible exact Below.refl _ _ | with_reducible refine bdrew ?_ | (with_reducible refine brow ?_ ?_; (focus (first | omega | (simp; done) | (simp; omega)))) | (with_reducible refine bset ?_ ?_; (focus (first | omega | (simp; done) | (simp; omega)))) | (with_reducible refine balloc ?_ ?_; (focus (first | omega | (simp; done) | (simp; omega)))) | (with_reducible refine bvia (unhide HB1) ?_ ?_; (focus (first | omega | (simp; done) | (simp; omega)))) | (with_reducible refine bvia (unhide HB2) ?_ ?_; (focus (first | omega | (simp; done) | (simp; omega)))) | (with_reducible refine bvia (unhide HB3) ?_ ?_; (focus (first | omega | (simp; done) | (simp; omega)))) | (with_reducible refine bvia (unhide HB4) ?_ ?_; (focus (first | omega | (simp; done) | (simp; omega)))) | (with_reducible refine bvia (unhide HB5) ?_ ?_; (focus (first | omega | (simp; done) | (simp; omega)))) | (with_reducible refine bvia (unhide HB6) ?_ ?_; (focus (first | omega | (simp; done) | (simp; omega))))))
set_option maxRecDepth 10000 in
theorem manWith_yes (ver base ps is sm : Int) (p : Option Addr) (n c : Nat) (s : ByteArray) (at_ : Nat) (k : Int) (w : World) (hs : s.size ≤ maxLen) (hk : k = at_) (ha : at_ ≤ 1000) (h : M.bz s at_ ≤ 8) (h' : M.bz s (at_ + 1) ≤ 8) :
    Calls Tryz.prog 177 #[manV ver base ps is sm (.slice p n c) false ⟨#[]⟩ ⟨#[]⟩, .string s, .int .i64 k] w fun e w' => e = .returned (.tuple #[manV ver base ps is sm (.slice p n c) true (M.mk (M.bz s at_) fun j => M.bz s (at_ + 2 + j)) (M.mk (M.bz s (at_ + 1)) fun j => M.bz s (at_ + 2 + M.bz s at_ + j)), .int .i64 (at_ + 2 + M.bz s at_ + M.bz s (at_ + 1) : Nat), .bool true]) ∧ Below w.heap.size w w' := by
  have HL := hide hs
  subst hk
  have hz1 : ¬ w.heap.size = w.heap.size + 1 := by omega
  go_enter Tryz.func177, Tryz.ntmps177
  go_wp2_with fail
  refine (wordByte_at s _ at_ _ (unhide HL) rfl).mono ?_
  rintro e w' ⟨rfl, rfl⟩
  generalize hq : M.bz s at_ = q at *
  have HQ := hide hq
  clear hq
  go_wp2_with fail
  refine (wordByte_at s _ (at_ + 1) _ (unhide HL) (by omega)).mono ?_
  rintro e w' ⟨rfl, rfl⟩
  generalize hr : M.bz s (at_ + 1) = r at *
  have HR := hide hr
  clear hr
  have h9 : ¬ (8 : Int) < (q : Int) := by omega
  have h10 : ¬ (8 : Int) < (r : Int) := by omega
  go_wp2_with fail
  refine (padded_any s (at_ + 2) q _ _ (unhide HL) (by omega) (by omega) (by omega)).mono ?_
  rintro e w1 ⟨rfl, hb1⟩
  obtain ⟨k1, k2, hs1, hb⟩ := blk2 hb1
  obtain ⟨hx1, hf1⟩ := block_facts k1
  have K1 := hide k1
  have K2 := hide k2
  have HB := hide hb
  clear hb hb1 k1 k2
  have l1 : w.heap.size < w1.heap.size := (by omega); have n1 : ¬ w.heap.size = w1.heap.size := (by omega)
  have l2 : w.heap.size + 1 < w1.heap.size := (by omega); have n2 : ¬ w.heap.size + 1 = w1.heap.size := (by omega)
  generalize hQ : (M.mk q fun j => M.bz s (at_ + 2 + j)) = Q at *
  have HQT := hide hQ
  clear hQ
  go_wp2_with fail
  refine (padded_any s (at_ + 2 + q) r _ _ (unhide HL) (by omega) (by omega) (by omega)).mono ?_
  rintro e w2 ⟨rfl, hb2⟩
  generalize hA : (M.mk r fun j => M.bz s (at_ + 2 + q + j)) = A at *
  have HAT := hide hA
  clear hA hx1 hf1
  have k1 : w2.heap[w.heap.size]? = some (.cells (manC ver base ps is sm (.slice p n c) true Q ⟨#[]⟩) 143 (0, 0)) := kept_block hb2 ((setCell_in (unhide K1) 7 _).trans rfl)
  have k2 := kept_block hb2 (set_block (unhide K2) (by omega))
  obtain ⟨hx1, hf1⟩ := block_facts k1
  obtain ⟨hx2, hf2⟩ := block_facts k2
  have hs2 := hb2.size
  have e2 : (w1.setCell ⟨w.heap.size, 7, none⟩ (.string Q)).heap.size = w1.heap.size := by simp
  rw [e2] at hs2
  have HB2 : Hid (Below w.heap.size w w2) := ((unhide HB).setCell (by simp) _).trans (hb2.mono (by rw [e2]; omega))
  clear hb2 k1 k2 K1 K2 HB e2
  have HB := HB2
  clear HB2
  have l3 : w.heap.size < w2.heap.size := (by omega); have n3 : ¬ w.heap.size = w2.heap.size := (by omega)
  have l4 : w.heap.size + 1 < w2.heap.size := (by omega); have n4 : ¬ w.heap.size + 1 = w2.heap.size := (by omega)
  go_wp2
  refine bodyPost_ret (v := .tuple #[manV ver base ps is sm (.slice p n c) true Q A, .int .i64 ((at_ : Int) + 2 + q + r), .bool true]) (by simp [results, Tryz.results177, go_sem, *]) rfl ⟨ret_man3 (by rw [HQ.out, HR.out, HQT.out, HAT.out]) (by rw [HQ.out, HR.out]; omega), ?_⟩
  repeat (first | with_reducible exact unhide HB | with_reducible exact Below.refl _ _ | with_reducible refine bdrew ?_ | (with_reducible refine brow ?_ ?_; (focus (first | omega | (simp; done) | (simp; omega)))) | (with_reducible refine bset ?_ ?_; (focus (first | omega | (simp; done) | (simp; omega)))) | (with_reducible refine balloc ?_ ?_; (focus (first | omega | (simp; done) | (simp; omega)))) | (with_reducible refine bvia (unhide HB1) ?_ ?_; (focus (first | omega | (simp; done) | (simp; omega)))) | (with_reducible refine bvia (unhide HB2) ?_ ?_; (focus (first | omega | (simp; done) | (simp; omega)))) | (with_reducible refine bvia (unhide HB3) ?_ ?_; (focus (first | omega | (simp; done) | (simp; omega)))) | (with_reducible refine bvia (unhide HB4) ?_ ?_; (focus (first | omega | (simp; done) | (simp; omega)))) | (with_reducible refine bvia (unhide HB5) ?_ ?_; (focus (first | omega | (simp; done) | (simp; omega)))) | (with_reducible refine bvia (unhide HB6) ?_ ?_; (focus (first | omega | (simp; done) | (simp; omega)))))
end Go.Proofs.YtjfmiomopfjecabGreat

/- A manifest is read. -/
namespace Go.Proofs.YtjfmiomopfjecabGreat
open Go.RowKit Go.Lib

def readV (g : Nat → Nat) (v : Value) : Value :=
  match M.sealX g with
  | some at_ => .tuple #[manOf g v, .int .i64 at_, .bool true]
  | none => .tuple #[manZ, .int .i64 0, .bool false]
theorem ret_some {g : Nat → Nat} {at_ : Nat} {v u : Value} {n : Int} (h : M.sealX g = some at_) (hu : u = manOf g v) (hn : n = at_) : Ending.returned (.tuple #[u, .int .i64 n, .bool true]) = .returned (readV g v) := by
  unfold readV
  rw [h, hu, hn]
theorem ret_none {g : Nat → Nat} {v : Value} (h : M.sealX g = none) : Ending.returned (.tuple #[manZ, .int .i64 0, .bool false]) = .returned (readV g v) := by
  unfold readV
  rw [h]
theorem ownsRow_base {w : World} {base base' : Nat} {e : TypeId} {size : Nat} {v : Value} {n : Nat} {xs : List Value} (h : w.ownsRow base' e size v n xs) (hle : base ≤ base') : w.ownsRow base e size v n xs := by
  refine ⟨h.1, ?_⟩
  rcases h.2 with hn | ⟨g, cap, cur, hv, hb, rest⟩
  · exact .inl hn
  · exact .inr ⟨g, cap, cur, hv, Nat.le_trans hle hb, rest⟩
section
variable {g : Nat → Nat} {p n c a0 a2 a6 : Nat} {v : Value}
theorem man_zero (hp : g 4 = p) (hn : g 5 = n) (hc : M.chunksN p = c) (h0 : M.numAt g 0 = a0) (h2 : M.numAt g 2 = a2) (h6 : M.numAt g 6 = a6) (ht : g (8 + 2 * c) ≠ 1) : manV a0 a2 p n a6 v false ⟨#[]⟩ ⟨#[]⟩ = manOf g v := by
  subst hp hn hc h0 h2 h6
  unfold manOf
  have e1 : M.exB g = false := decide_eq_false ht
  have e2 : M.exQ g = ⟨#[]⟩ := if_neg ht
  have e3 : M.exA g = ⟨#[]⟩ := if_neg ht
  rw [e1, e2, e3]
theorem man_one (hp : g 4 = p) (hn : g 5 = n) (hc : M.chunksN p = c) (h0 : M.numAt g 0 = a0) (h2 : M.numAt g 2 = a2) (h6 : M.numAt g 6 = a6) (ht : g (8 + 2 * c) = 1) : manV a0 a2 p n a6 v true (M.mk (g (9 + 2 * c)) fun j => g (9 + 2 * c + 2 + j)) (M.mk (g (9 + 2 * c + 1)) fun j => g (9 + 2 * c + 2 + g (9 + 2 * c) + j)) = manOf g v := by
  subst hp hn hc h0 h2 h6
  unfold manOf
  have e1 : M.exB g = true := decide_eq_true ht
  have e2 : M.exQ g = M.mk (g (9 + 2 * M.chunksN (g 4))) fun j => g (11 + 2 * M.chunksN (g 4) + j) := if_pos ht
  have e3 : M.exA g = M.mk (g (10 + 2 * M.chunksN (g 4))) fun j => g (11 + 2 * M.chunksN (g 4) + g (9 + 2 * M.chunksN (g 4)) + j) := if_pos ht
  rw [e1, e2, e3, show 10 + 2 * M.chunksN (g 4) = 9 + 2 * M.chunksN (g 4) + 1 from by omega, show 11 + 2 * M.chunksN (g 4) = 9 + 2 * M.chunksN (g 4) + 2 from by omega]
theorem seal_zero (hp : g 4 = p) (hn : g 5 = n) (hc : M.chunksN p = c) (h1 : 1 ≤ p) (h2 : p ≤ 96) (h3 : 1 ≤ n) (h4 : n ≤ 96) (ht : g (8 + 2 * c) = 0) : M.sealX g = some (9 + 2 * c) := by
  subst hp hn hc
  unfold M.sealX
  rw [if_neg (by omega), if_pos ht]
theorem seal_one (hp : g 4 = p) (hn : g 5 = n) (hc : M.chunksN p = c) (h1 : 1 ≤ p) (h2 : p ≤ 96) (h3 : 1 ≤ n) (h4 : n ≤ 96) (ht : g (8 + 2 * c) = 1) (hq : g (9 + 2 * c) ≤ 8) (ha : g (9 + 2 * c + 1) ≤ 8) : M.sealX g = some (9 + 2 * c + 2 + g (9 + 2 * c) + g (9 + 2 * c + 1)) := by
  subst hp hn hc
  unfold M.sealX
  rw [show 10 + 2 * M.chunksN (g 4) = 9 + 2 * M.chunksN (g 4) + 1 from by omega, if_neg (by omega), if_neg (by omega), if_pos ht, if_neg (by omega), show 11 + 2 * M.chunksN (g 4) = 9 + 2 * M.chunksN (g 4) + 2 from by omega]
theorem seal_not (hp : g 4 = p) (hn : g 5 = n) (hc : M.chunksN p = c) (h1 : 1 ≤ p) (h2 : p ≤ 96) (h3 : 1 ≤ n) (h4 : n ≤ 96) (ht : 1 < g (8 + 2 * c) ∨ g (8 + 2 * c) = 1 ∧ (8 < g (9 + 2 * c) ∨ 8 < g (9 + 2 * c + 1))) : M.sealX g = none := by
  subst hp hn hc
  unfold M.sealX
  rw [show 10 + 2 * M.chunksN (g 4) = 9 + 2 * M.chunksN (g 4) + 1 from by omega, if_neg (by omega), if_neg (by omega)]
  rcases ht with ht | ⟨ht, h⟩
  · rw [if_neg (by omega)]
  · rw [if_pos ht, if_pos h]
end
set_option maxRecDepth 10000 in
theorem manRead_bad (s : ByteArray) (w : World) (hs : s.size ≤ maxLen) (h : M.bz s 4 < 1 ∨ 96 < M.bz s 4 ∨ M.bz s 5 < 1 ∨ 96 < M.bz s 5) :
    Calls Tryz.prog 142 #[.string s] w fun e w' => e = .returned (.tuple #[manZ, .int .i64 0, .bool false]) ∧ Below w.heap.size w w' := by
  have HL := hide hs
  have c1 : M.bz s 4 < 1 ∨ 1 ≤ M.bz s 4 ∧ 96 < M.bz s 4 ∨ 1 ≤ M.bz s 4 ∧ M.bz s 4 ≤ 96 ∧ M.bz s 5 < 1 ∨ 1 ≤ M.bz s 4 ∧ M.bz s 4 ≤ 96 ∧ 1 ≤ M.bz s 5 ∧ 96 < M.bz s 5 := by omega
  have HC := hide c1
  clear h c1
  go_enter Tryz.func142, Tryz.ntmps142
  go_wp2_with fail
  refine (manHead_any s _ (unhide HL)).mono ?_
  rintro e w1 ⟨rfl, hb1⟩
  obtain ⟨k1, hs1, hb⟩ := blk1 hb1
  obtain ⟨hx1, hf1⟩ := block_facts k1
  have HB := hide hb
  clear hb hb1 k1
  have l1 : w.heap.size < w1.heap.size := (by omega); have n1 : ¬ w.heap.size = w1.heap.size := (by omega)
  generalize M.bz s 4 = p at *
  generalize M.bz s 5 = n at *
  generalize M.numAt (M.bz s) 0 = a0 at *
  generalize M.numAt (M.bz s) 2 = a2 at *
  generalize M.numAt (M.bz s) 6 = a6 at *
  rcases unhide HC with h | ⟨h1, h2⟩ | ⟨h1, h2, h3⟩ | ⟨h1, h2, h3, h4⟩
  · have g1 : (p : Int) < 1 := by omega
    clear HC
    go_wp2
    refine bodyPost_ret (v := .tuple #[manZ, .int .i64 0, .bool false]) (by simp [results, Tryz.results142, go_sem, *]) rfl ⟨rfl, ?_⟩
    repeat (first | with_reducible exact unhide HB | with_reducible exact Below.refl _ _ | with_reducible refine bdrew ?_ | (with_reducible refine brow ?_ ?_; (focus (first | omega | (simp; done) | (simp; omega)))) | (with_reducible refine bset ?_ ?_; (focus (first | omega | (simp; done) | (simp; omega)))) | (with_reducible refine balloc ?_ ?_; (focus (first | omega | (simp; done) | (simp; omega)))) | (with_reducible refine bvia (unhide HB1) ?_ ?_; (focus (first | omega | (simp; done) | (simp; omega)))) | (with_reducible refine bvia (unhide HB2) ?_ ?_; (focus (first | omega | (simp; done) | (simp; omega)))) | (with_reducible refine bvia (unhide HB3) ?_ ?_; (focus (first | omega | (simp; done) | (simp; omega)))) | (with_reducible refine bvia (unhide HB4) ?_ ?_; (focus (first | omega | (simp; done) | (simp; omega)))) | (with_reducible refine bvia (unhide HB5) ?_ ?_; (focus (first | omega | (simp; done) | (simp; omega)))) | (with_reducible refine bvia (unhide HB6) ?_ ?_; (focus (first | omega | (simp; done) | (simp; omega)))))
  · have g1 : ¬ (p : Int) < 1 := by omega
    have g2 : (96 : Int) < (p : Int) := by omega
    clear HC
    go_wp2
    refine bodyPost_ret (v := .tuple #[manZ, .int .i64 0, .bool false]) (by simp [results, Tryz.results142, go_sem, *]) rfl ⟨rfl, ?_⟩
    repeat (first | with_reducible exact unhide HB | with_reducible exact Below.refl _ _ | with_reducible refine bdrew ?_ | (with_reducible refine brow ?_ ?_; (focus (first | omega | (simp; done) | (simp; omega)))) | (with_reducible refine bset ?_ ?_; (focus (first | omega | (simp; done) | (simp; omega)))) | (with_reducible refine balloc ?_ ?_; (focus (first | omega | (simp; done) | (simp; omega)))) | (with_reducible refine bvia (unhide HB1) ?_ ?_; (focus (first | omega | (simp; done) | (simp; omega)))) | (with_reducible refine bvia (unhide HB2) ?_ ?_; (focus (first | omega | (simp; done) | (simp; omega)))) | (with_reducible refine bvia (unhide HB3) ?_ ?_; (focus (first | omega | (simp; done) | (simp; omega)))) | (with_reducible refine bvia (unhide HB4) ?_ ?_; (focus (first | omega | (simp; done) | (simp; omega)))) | (with_reducible refine bvia (unhide HB5) ?_ ?_; (focus (first | omega | (simp; done) | (simp; omega)))) | (with_reducible refine bvia (unhide HB6) ?_ ?_; (focus (first | omega | (simp; done) | (simp; omega)))))
  · have g1 : ¬ (p : Int) < 1 := by omega
    have g2 : ¬ (96 : Int) < (p : Int) := by omega
    have g3 : (n : Int) < 1 := by omega
    clear HC
    go_wp2
    refine bodyPost_ret (v := .tuple #[manZ, .int .i64 0, .bool false]) (by simp [results, Tryz.results142, go_sem, *]) rfl ⟨rfl, ?_⟩
    repeat (first | with_reducible exact unhide HB | with_reducible exact Below.refl _ _ | with_reducible refine bdrew ?_ | (with_reducible refine brow ?_ ?_; (focus (first | omega | (simp; done) | (simp; omega)))) | (with_reducible refine bset ?_ ?_; (focus (first | omega | (simp; done) | (simp; omega)))) | (with_reducible refine balloc ?_ ?_; (focus (first | omega | (simp; done) | (simp; omega)))) | (with_reducible refine bvia (unhide HB1) ?_ ?_; (focus (first | omega | (simp; done) | (simp; omega)))) | (with_reducible refine bvia (unhide HB2) ?_ ?_; (focus (first | omega | (simp; done) | (simp; omega)))) | (with_reducible refine bvia (unhide HB3) ?_ ?_; (focus (first | omega | (simp; done) | (simp; omega)))) | (with_reducible refine bvia (unhide HB4) ?_ ?_; (focus (first | omega | (simp; done) | (simp; omega)))) | (with_reducible refine bvia (unhide HB5) ?_ ?_; (focus (first | omega | (simp; done) | (simp; omega)))) | (with_reducible refine bvia (unhide HB6) ?_ ?_; (focus (first | omega | (simp; done) | (simp; omega)))))
  · have g1 : ¬ (p : Int) < 1 := by omega
    have g2 : ¬ (96 : Int) < (p : Int) := by omega
    have g3 : ¬ (n : Int) < 1 := by omega
    have g4 : (96 : Int) < (n : Int) := by omega
    clear HC
    go_wp2
    refine bodyPost_ret (v := .tuple #[manZ, .int .i64 0, .bool false]) (by simp [results, Tryz.results142, go_sem, *]) rfl ⟨rfl, ?_⟩
    repeat (first | with_reducible exact unhide HB | with_reducible exact Below.refl _ _ | with_reducible refine bdrew ?_ | (with_reducible refine brow ?_ ?_; (focus (first | omega | (simp; done) | (simp; omega)))) | (with_reducible refine bset ?_ ?_; (focus (first | omega | (simp; done) | (simp; omega)))) | (with_reducible refine balloc ?_ ?_; (focus (first | omega | (simp; done) | (simp; omega)))) | (with_reducible refine bvia (unhide HB1) ?_ ?_; (focus (first | omega | (simp; done) | (simp; omega)))) | (with_reducible refine bvia (unhide HB2) ?_ ?_; (focus (first | omega | (simp; done) | (simp; omega)))) | (with_reducible refine bvia (unhide HB3) ?_ ?_; (focus (first | omega | (simp; done) | (simp; omega)))) | (with_reducible refine bvia (unhide HB4) ?_ ?_; (focus (first | omega | (simp; done) | (simp; omega)))) | (with_reducible refine bvia (unhide HB5) ?_ ?_; (focus (first | omega | (simp; done) | (simp; omega)))) | (with_reducible refine bvia (unhide HB6) ?_ ?_; (focus (first | omega | (simp; done) | (simp; omega)))))
set_option maxRecDepth 10000 in
set_option maxHeartbeats 2000000 in
theorem manRead_good (s : ByteArray) (w : World) (hs : s.size ≤ maxLen) (h1 : 1 ≤ M.bz s 4) (h2 : M.bz s 4 ≤ 96) (h3 : 1 ≤ M.bz s 5) (h4 : M.bz s 5 ≤ 96) :
    Calls Tryz.prog 142 #[.string s] w fun e w' => ∃ v, e = .returned (readV (M.bz s) v) ∧ w'.ownsRow (w.heap.size + 1) 3 1 v (M.chunksN (M.bz s 4)) (intCells (M.sumsL (M.bz s) (M.chunksN (M.bz s 4)))) ∧ Below w.heap.size w w' := by
  have HL := hide hs
  have hc6 : M.chunksN (M.bz s 4) ≤ 6 := by unfold M.chunksN; omega
  go_enter Tryz.func142, Tryz.ntmps142
  go_wp2_with fail
  refine (manHead_any s _ (unhide HL)).mono ?_
  rintro e w1 ⟨rfl, hb1⟩
  obtain ⟨k1, hs1, hb⟩ := blk1 hb1
  have K1 := hide k1
  have HB := hide hb
  clear hb hb1 k1
  have l1 : w.heap.size < w1.heap.size := (by omega); have n1 : ¬ w.heap.size = w1.heap.size := (by omega)
  generalize hp : M.bz s 4 = p at *
  generalize hn : M.bz s 5 = n at *
  generalize hc : M.chunksN p = c at *
  generalize hA0 : M.numAt (M.bz s) 0 = a0 at *
  generalize hA2 : M.numAt (M.bz s) 2 = a2 at *
  generalize hA6 : M.numAt (M.bz s) 6 = a6 at *
  have HP := hide hp
  have HN := hide hn
  have HC := hide hc
  have HA0 := hide hA0
  have HA2 := hide hA2
  have HA6 := hide hA6
  clear hp hn hc hA0 hA2 hA6
  have g1 : ¬ (p : Int) < 1 := by omega
  have g2 : ¬ (96 : Int) < (p : Int) := by omega
  have g3 : ¬ (n : Int) < 1 := by omega
  have g4 : ¬ (96 : Int) < (n : Int) := by omega
  go_wp2_with fail
  go_loopw [6, 7] (fun at' i' wr => ∃ (k : Nat) (v : Value), k ≤ c ∧ i' = .int .i64 k ∧ at' = .int .i64 (8 + 2 * (k : Int)) ∧ wr.heap[w.heap.size]? = some (.cells (manC 0 0 0 0 0 (.slice none 0 0) false ⟨#[]⟩ ⟨#[]⟩) 143 (0, 0)) ∧ wr.heap[w1.heap.size]? = some (.cells (manC a0 a2 p n a6 v false ⟨#[]⟩ ⟨#[]⟩) 143 (0, 0)) ∧ wr.ownsRow (w1.heap.size + 1) 3 1 v k (intCells (M.sumsL (M.bz s) k)) ∧ Below w.heap.size w wr) (fun _ i' _ => c - (intOf i').toNat)
  case atStart => exact ⟨0, .slice none 0 0, by omega, rfl, rfl, alloc_block (unhide K1) _, last_block _ _ rfl, World.ownsRow_nil _ _ _ _, (unhide HB).alloc (by omega) _⟩
  case round =>
    obtain ⟨k, v, hk, rfl, rfl, k1, k2, hown, hbel⟩ := hrel
    have HLen := hide (M.sumsL_length (M.bz s) k)
    obtain ⟨ao, cap, rfl, -⟩ := (holdsRow_own hown).shape
    obtain ⟨hx2, hf2⟩ := block_facts k2
    have hsz : w1.heap.size < wr.heap.size := (Array.getElem?_eq_some_iff.1 k2).1
    have K1 := hide k1
    have K2 := hide k2
    have HO := hide hown
    have HB2 := hide hbel
    clear k1 k2 hown hbel
    go_wp2_with fail
    refine (manChunks_any _ _ _ _ p _ _ _ _ _ (by omega)).mono ?_
    rintro e w2 ⟨rfl, hb2⟩
    rw [HC.out]
    clear hx2 hf2
    have k1 := kept_block hb2 (unhide K1)
    have k2 := kept_block hb2 (unhide K2)
    have hown := ownsRow_below (unhide HO) hb2
    have hbel := bvia hb2 (by omega) (unhide HB2)
    have hs2 := hb2.size
    clear K1 K2 HO HB2 hb2
    obtain ⟨hx2, hf2⟩ := block_facts k2
    have hsz2 : w1.heap.size < w2.heap.size := by omega
    have K1 := hide k1
    have K2 := hide k2
    have HO := hide hown
    have HB2 := hide hbel
    clear k1 k2 hown hbel
    by_cases hlt : k < c
    · have HS := hide (M.sumsL_succ (M.bz s) k)
      have hx5 := hx2 5
      go_wp2_with fail
      refine (wordNumber_any s _ (8 + 2 * k) _ (unhide HL) (by omega) (by omega)).mono ?_
      rintro e w' ⟨rfl, rfl⟩
      generalize hy : M.bz s (8 + 2 * k) * 256 + M.bz s (8 + 2 * k + 1) = y at *
      have HY : Hid (M.numAt (M.bz s) (8 + 2 * k) = y) := hy
      clear hy
      clear hx5
      go_wp2_with (at_builtin; (refine append_int _ rfl (.tmp 40) (.tmp 42) rfl (w1.heap.size + 1) (.slice ao k cap) (M.sumsL (M.bz s) k) y rfl rfl (by rw [HLen.out]; exact unhide HO) (by rw [HLen.out]; omega) (by omega) ?_); intro v' w3 hown3 hbel3 hsz3; have HO3 := hide hown3; obtain ⟨ao', cap', hv', -⟩ := (holdsRow_own hown3).shape; subst hv'; have HB3 := hide (hbel3 _ (Below.refl _ _)); obtain ⟨hx3, hf3⟩ := block_facts (((unhide HB3).block w1.heap.size (by omega)).trans (unhide K2)); clear hown3 hbel3)
      have hlen3 : Hid ((M.sumsL (M.bz s) k ++ [(y : Int)]).length = k + 1) := by show _ = _; rw [List.length_append, HLen.out]; rfl
      rw [HLen.out]
      have HR3 : Hid (w3.ownsRow (w1.heap.size + 1) 3 1 (.slice ao' (k + 1) cap') (k + 1) (intCells (M.sumsL (M.bz s) (k + 1)))) := by
        show World.ownsRow _ _ _ _ _ _ _
        rw [HS.out, HY.out]
        have := unhide HO3
        rw [hlen3.out] at this
        exact this
      refine ⟨⟨k + 1, .slice ao' (k + 1) cap', by omega, by go_num, congrArg (Value.int .i64) (by omega), ?_, ?_, ?_, ?_⟩, by simp [intOf]; omega⟩
      · exact set_block (((unhide HB3).block _ (by omega)).trans (unhide K1)) (by omega)
      · exact (setCell_in (((unhide HB3).block _ (by omega)).trans (unhide K2)) 5 _).trans rfl
      · exact ownsRow_setCell_below (unhide HR3) (a := ⟨w1.heap.size, 5, none⟩) (by show w1.heap.size < _; omega) _
      · exact ((unhide HB2).trans ((unhide HB3).mono (by omega))).setCell (by show w.heap.size ≤ w1.heap.size; omega) _
    · have hkc : k = c := by omega
      subst hkc
      go_wp2_with fail
      refine (wordByte_at s _ (8 + 2 * k) _ (unhide HL) (by omega)).mono ?_
      rintro e w' ⟨rfl, rfl⟩
      obtain ⟨hx1, hf1⟩ := block_facts (unhide K1)
      have hb := M.bz_lt s (8 + 2 * k)
      generalize hT : M.bz s (8 + 2 * k) = tg at *
      have HT := hide hT
      clear hT
      have l2 : w.heap.size < w2.heap.size := (by omega); have n2 : ¬ w.heap.size = w2.heap.size := (by omega)
      have HOw : Hid (w2.ownsRow (w.heap.size + 1) 3 1 (.slice ao k cap) k (intCells (M.sumsL (M.bz s) k))) := ownsRow_base (unhide HO) (by omega)
      by_cases ht0 : tg = 0
      · subst ht0
        have HX := hide (seal_zero HP.out HN.out HC.out h1 h2 h3 h4 HT.out)
        have HM := hide (man_zero (v := .slice ao k cap) HP.out HN.out HC.out HA0.out HA2.out HA6.out (by rw [HT.out]; decide))
        have HB3 : Hid (Below w.heap.size w w2) := unhide HB2
        clear HB
        have HB := HB3
        go_wp2
        refine bodyPost_ret (v := .tuple #[manV a0 a2 p n a6 (.slice ao k cap) false ⟨#[]⟩ ⟨#[]⟩, .int .i64 (8 + 2 * (k : Int) + 1), .bool true]) (by simp [results, Tryz.results142, go_sem, hx1]) rfl ⟨.slice ao k cap, ret_some HX.out HM.out (by omega), ?_, ?_⟩
        · rw [HP.out, HC.out]
          iterate 9 refine ownsRow_setCell_below ?_ (by show w.heap.size < _; omega) _
          exact unhide HOw
        · repeat (first | with_reducible exact unhide HB | with_reducible exact Below.refl _ _ | with_reducible refine bdrew ?_ | (with_reducible refine brow ?_ ?_; (focus (first | omega | (simp; done) | (simp; omega)))) | (with_reducible refine bset ?_ ?_; (focus (first | omega | (simp; done) | (simp; omega)))) | (with_reducible refine balloc ?_ ?_; (focus (first | omega | (simp; done) | (simp; omega)))) | (with_reducible refine bvia (unhide HB1) ?_ ?_; (focus (first | omega | (simp; done) | (simp; omega)))) | (with_reducible refine bvia (unhide HB2) ?_ ?_; (focus (first | omega | (simp; done) | (simp; omega)))) | (with_reducible refine bvia (unhide HB3) ?_ ?_; (focus (first | omega | (simp; done) | (simp; omega)))) | (with_reducible refine bvia (unhide HB4) ?_ ?_; (focus (first | omega | (simp; done) | (simp; omega)))) | (with_reducible refine bvia (unhide HB5) ?_ ?_; (focus (first | omega | (simp; done) | (simp; omega)))) | (with_reducible refine bvia (unhide HB6) ?_ ?_; (focus (first | omega | (simp; done) | (simp; omega)))))
      · have e0 : ¬ (tg : Int) = 0 := by omega
        by_cases ht1 : tg = 1
        · subst ht1
          by_cases hqa : M.bz s (9 + 2 * k) ≤ 8 ∧ M.bz s (9 + 2 * k + 1) ≤ 8
          · have HX := hide (seal_one HP.out HN.out HC.out h1 h2 h3 h4 HT.out hqa.1 hqa.2)
            have HM := hide (man_one (v := .slice ao k cap) HP.out HN.out HC.out HA0.out HA2.out HA6.out HT.out)
            have HQ := hide hqa
            clear hqa
            go_wp2_with fail
            refine (manWith_yes _ _ _ _ _ ao k cap s (9 + 2 * k) _ _ (unhide HL) (by omega) (by omega) (unhide HQ).1 (unhide HQ).2).mono ?_
            rintro e w3 ⟨rfl, hb3⟩
            rw [HM.out]
            have k1 := kept_block hb3 (unhide K1)
            clear hx1 hf1 hx2 hf2
            obtain ⟨hx1, hf1⟩ := block_facts k1
            have HOw3 := hide (ownsRow_below (unhide HOw) hb3)
            have hs3 := hb3.size
            have HB3 : Hid (Below w.heap.size w w3) := bvia hb3 (by omega) (unhide HB2)
            clear HB hb3 k1
            have HB := HB3
            clear HB3
            have l3 : w.heap.size < w3.heap.size := (by omega); have n3 : ¬ w.heap.size = w3.heap.size := (by omega)
            generalize hat : 9 + 2 * k + 2 + M.bz s (9 + 2 * k) + M.bz s (9 + 2 * k + 1) = at_ at *
            clear hat
            go_wp2
            refine bodyPost_ret (v := .tuple #[manOf (M.bz s) (.slice ao k cap), .int .i64 at_, .bool true]) (by simp [results, Tryz.results142, go_sem, hx1]) rfl ⟨.slice ao k cap, ret_some HX.out rfl rfl, ?_, ?_⟩
            · rw [HP.out, HC.out]
              iterate 9 refine ownsRow_setCell_below ?_ (by show w.heap.size < _; omega) _
              exact unhide HOw3
            · repeat (first | with_reducible exact unhide HB | with_reducible exact Below.refl _ _ | with_reducible refine bdrew ?_ | (with_reducible refine brow ?_ ?_; (focus (first | omega | (simp; done) | (simp; omega)))) | (with_reducible refine bset ?_ ?_; (focus (first | omega | (simp; done) | (simp; omega)))) | (with_reducible refine balloc ?_ ?_; (focus (first | omega | (simp; done) | (simp; omega)))) | (with_reducible refine bvia (unhide HB1) ?_ ?_; (focus (first | omega | (simp; done) | (simp; omega)))) | (with_reducible refine bvia (unhide HB2) ?_ ?_; (focus (first | omega | (simp; done) | (simp; omega)))) | (with_reducible refine bvia (unhide HB3) ?_ ?_; (focus (first | omega | (simp; done) | (simp; omega)))) | (with_reducible refine bvia (unhide HB4) ?_ ?_; (focus (first | omega | (simp; done) | (simp; omega)))) | (with_reducible refine bvia (unhide HB5) ?_ ?_; (focus (first | omega | (simp; done) | (simp; omega)))) | (with_reducible refine bvia (unhide HB6) ?_ ?_; (focus (first | omega | (simp; done) | (simp; omega)))))
          · have HX := hide (seal_not HP.out HN.out HC.out h1 h2 h3 h4 (.inr ⟨HT.out, by omega⟩))
            have HQ : Hid (8 < M.bz s (9 + 2 * k) ∨ 8 < M.bz s (9 + 2 * k + 1)) := by show _ ∨ _; omega
            clear hqa
            go_wp2_with fail
            refine (manWith_no _ _ _ _ _ ao k cap s (9 + 2 * k) _ _ (unhide HL) (by omega) (by omega) (unhide HQ)).mono ?_
            rintro e w3 ⟨rfl, hb3⟩
            have k1 := kept_block hb3 (unhide K1)
            clear hx1 hf1 hx2 hf2
            obtain ⟨hx1, hf1⟩ := block_facts k1
            have HOw3 := hide (ownsRow_below (unhide HOw) hb3)
            have hs3 := hb3.size
            have HB3 : Hid (Below w.heap.size w w3) := bvia hb3 (by omega) (unhide HB2)
            clear HB hb3 k1
            have HB := HB3
            clear HB3
            have l3 : w.heap.size < w3.heap.size := (by omega); have n3 : ¬ w.heap.size = w3.heap.size := (by omega)
            go_wp2
            refine bodyPost_ret (v := .tuple #[manZ, .int .i64 0, .bool false]) (by simp [results, Tryz.results142, go_sem, hx1]) rfl ⟨.slice ao k cap, ret_none HX.out, ?_, ?_⟩
            · rw [HP.out, HC.out]
              iterate 9 refine ownsRow_setCell_below ?_ (by show w.heap.size < _; omega) _
              exact unhide HOw3
            · repeat (first | with_reducible exact unhide HB | with_reducible exact Below.refl _ _ | with_reducible refine bdrew ?_ | (with_reducible refine brow ?_ ?_; (focus (first | omega | (simp; done) | (simp; omega)))) | (with_reducible refine bset ?_ ?_; (focus (first | omega | (simp; done) | (simp; omega)))) | (with_reducible refine balloc ?_ ?_; (focus (first | omega | (simp; done) | (simp; omega)))) | (with_reducible refine bvia (unhide HB1) ?_ ?_; (focus (first | omega | (simp; done) | (simp; omega)))) | (with_reducible refine bvia (unhide HB2) ?_ ?_; (focus (first | omega | (simp; done) | (simp; omega)))) | (with_reducible refine bvia (unhide HB3) ?_ ?_; (focus (first | omega | (simp; done) | (simp; omega)))) | (with_reducible refine bvia (unhide HB4) ?_ ?_; (focus (first | omega | (simp; done) | (simp; omega)))) | (with_reducible refine bvia (unhide HB5) ?_ ?_; (focus (first | omega | (simp; done) | (simp; omega)))) | (with_reducible refine bvia (unhide HB6) ?_ ?_; (focus (first | omega | (simp; done) | (simp; omega)))))
        · have e1 : ¬ (tg : Int) = 1 := by omega
          have HX := hide (seal_not HP.out HN.out HC.out h1 h2 h3 h4 (.inl (by rw [HT.out]; omega)))
          clear HB
          have HB := HB2
          go_wp2
          refine bodyPost_ret (v := .tuple #[manZ, .int .i64 0, .bool false]) (by simp [results, Tryz.results142, go_sem, hx1]) rfl ⟨.slice ao k cap, ret_none HX.out, ?_, ?_⟩
          · rw [HP.out, HC.out]
            iterate 9 refine ownsRow_setCell_below ?_ (by show w.heap.size < _; omega) _
            exact unhide HOw
          · repeat (first | with_reducible exact unhide HB | with_reducible exact Below.refl _ _ | with_reducible refine bdrew ?_ | (with_reducible refine brow ?_ ?_; (focus (first | omega | (simp; done) | (simp; omega)))) | (with_reducible refine bset ?_ ?_; (focus (first | omega | (simp; done) | (simp; omega)))) | (with_reducible refine balloc ?_ ?_; (focus (first | omega | (simp; done) | (simp; omega)))) | (with_reducible refine bvia (unhide HB1) ?_ ?_; (focus (first | omega | (simp; done) | (simp; omega)))) | (with_reducible refine bvia (unhide HB2) ?_ ?_; (focus (first | omega | (simp; done) | (simp; omega)))) | (with_reducible refine bvia (unhide HB3) ?_ ?_; (focus (first | omega | (simp; done) | (simp; omega)))) | (with_reducible refine bvia (unhide HB4) ?_ ?_; (focus (first | omega | (simp; done) | (simp; omega)))) | (with_reducible refine bvia (unhide HB5) ?_ ?_; (focus (first | omega | (simp; done) | (simp; omega)))) | (with_reducible refine bvia (unhide HB6) ?_ ?_; (focus (first | omega | (simp; done) | (simp; omega)))))
end Go.Proofs.YtjfmiomopfjecabGreat

/- Manifests: parsed, taken from the flash, asked. -/
namespace Go.Proofs.YtjfmiomopfjecabGreat
open Go.RowKit Go.Lib

theorem manRead_any (s : ByteArray) (w : World) (hs : s.size ≤ maxLen) :
    Calls Tryz.prog 142 #[.string s] w fun e w' => ∃ ao n cap, e = .returned (readV (M.bz s) (.slice ao n cap)) ∧ (∀ at_, M.sealX (M.bz s) = some at_ → n = M.chunksN (M.bz s 4) ∧ w'.ownsRow (w.heap.size + 1) 3 1 (.slice ao n cap) n (intCells (M.sumsL (M.bz s) n))) ∧ Below w.heap.size w w' := by
  by_cases h : M.bz s 4 < 1 ∨ 96 < M.bz s 4 ∨ M.bz s 5 < 1 ∨ 96 < M.bz s 5
  · have hx : M.sealX (M.bz s) = none := if_pos h
    refine (manRead_bad s w hs h).mono ?_
    rintro e w' ⟨rfl, hb⟩
    exact ⟨none, 0, 0, ret_none hx, (fun at_ e => by rw [hx] at e; cases e), hb⟩
  · refine (manRead_good s w hs (by omega) (by omega) (by omega) (by omega)).mono ?_
    rintro e w' ⟨v, rfl, hown, hb⟩
    obtain ⟨ao, cap, rfl, -⟩ := (holdsRow_own hown).shape
    exact ⟨ao, _, cap, rfl, fun at_ _ => ⟨rfl, hown⟩, hb⟩
theorem text_inj {a b : ByteArray} (h : a.toList = b.toList) : a = b := by
  rw [ByteArray.toList_eq, ByteArray.toList_eq] at h
  exact ByteArray.ext (Array.toList_inj.1 h)
theorem readV_some {g : Nat → Nat} {at_ : Nat} {v : Value} (h : M.sealX g = some at_) : readV g v = .tuple #[manOf g v, .int .i64 at_, .bool true] := by unfold readV; rw [h]
theorem readV_none {g : Nat → Nat} {v : Value} (h : M.sealX g = none) : readV g v = .tuple #[manZ, .int .i64 0, .bool false] := by unfold readV; rw [h]
set_option maxRecDepth 10000 in
theorem manStored_any (s : ByteArray) (at_ : Nat) (w : World) (hs : s.size ≤ maxLen) (h : M.sealX (M.bz s) = some at_) :
    Calls Tryz.prog 115 #[.string s] w fun e w' => ∃ ao cap, e = .returned (manOf (M.bz s) (.slice ao (M.chunksN (M.bz s 4)) cap)) ∧ w'.ownsRow (w.heap.size + 1) 3 1 (.slice ao (M.chunksN (M.bz s 4)) cap) (M.chunksN (M.bz s 4)) (intCells (M.sumsL (M.bz s) (M.chunksN (M.bz s 4)))) ∧ Below w.heap.size w w' := by
  have HL := hide hs
  have HX := hide h
  clear h
  go_enter Tryz.func115, Tryz.ntmps115
  go_wp2_with fail
  refine (manRead_any s _ (unhide HL)).mono ?_
  rintro e w1 ⟨ao, n, cap, rfl, ho, hb1⟩
  obtain ⟨rfl, hown⟩ := ho at_ HX.out
  rw [readV_some HX.out]
  obtain ⟨k1, hs1, hb⟩ := blk1 hb1
  obtain ⟨hx1, hf1⟩ := block_facts k1
  have HO := hide (ownsRow_base hown (show w.heap.size + 1 ≤ _ by simp))
  have HB := hide hb
  clear hb hb1 k1 hown ho
  have l1 : w.heap.size < w1.heap.size := (by omega); have n1 : ¬ w.heap.size = w1.heap.size := (by omega)
  generalize hN : M.chunksN (M.bz s 4) = n at *
  have HN := hide hN
  clear hN
  go_wp2
  refine bodyPost_ret (v := manOf (M.bz s) (.slice ao n cap)) (by simp [results, Tryz.results115, go_sem, hx1, l1]) rfl ?_
  rw [HN.out]
  refine ⟨ao, cap, rfl, ?_, ?_⟩
  · refine World.ownsRow.alloc ?_ _
    iterate 9 refine ownsRow_setCell_below ?_ (by show w.heap.size < _; omega) _
    exact unhide HO
  · repeat (first | with_reducible exact unhide HB | with_reducible exact Below.refl _ _ | with_reducible refine bdrew ?_ | (with_reducible refine brow ?_ ?_; (focus (first | omega | (simp; done) | (simp; omega)))) | (with_reducible refine bset ?_ ?_; (focus (first | omega | (simp; done) | (simp; omega)))) | (with_reducible refine balloc ?_ ?_; (focus (first | omega | (simp; done) | (simp; omega)))) | (with_reducible refine bvia (unhide HB1) ?_ ?_; (focus (first | omega | (simp; done) | (simp; omega)))) | (with_reducible refine bvia (unhide HB2) ?_ ?_; (focus (first | omega | (simp; done) | (simp; omega)))) | (with_reducible refine bvia (unhide HB3) ?_ ?_; (focus (first | omega | (simp; done) | (simp; omega)))) | (with_reducible refine bvia (unhide HB4) ?_ ?_; (focus (first | omega | (simp; done) | (simp; omega)))) | (with_reducible refine bvia (unhide HB5) ?_ ?_; (focus (first | omega | (simp; done) | (simp; omega)))) | (with_reducible refine bvia (unhide HB6) ?_ ?_; (focus (first | omega | (simp; done) | (simp; omega)))))
set_option maxRecDepth 10000 in
set_option maxHeartbeats 1000000 in
theorem manParse_yes (key s : ByteArray) (w : World) (hk : key.size ≤ 16) (hs : s.size ≤ maxLen) (h : M.isMan key s = true) :
    Calls Tryz.prog 163 #[.string key, .string s] w fun e w' => ∃ ao n cap, e = .returned (.tuple #[manOf (M.bz s) (.slice ao n cap), .bool true]) ∧ Below w.heap.size w w' := by
  have HL := hide hs
  unfold M.isMan at h
  cases hX : M.sealX (M.bz s) with
  | none => rw [hX] at h; cases h
  | some at_ =>
    rw [hX] at h
    simp only [Bool.and_eq_true, decide_eq_true_eq] at h
    obtain ⟨hsz, hcr⟩ := h
    have hle := M.sealX_le hX
    have hat : at_ ≤ 39 := hle.1
    have HX := hide hX
    have HCR := hide hcr
    have HSZ := hide hsz
    have hsi : (at_ : Int) + 2 = (s.size : Int) := by omega
    have HSI := hide hsi
    have hne : ((at_ : Int) + 2 != (s.size : Int)) = false := by rw [hsi]; simp
    clear hX hcr hsz hle hsi
    go_enter Tryz.func163, Tryz.ntmps163
    go_wp2_with fail
    refine (manRead_any s _ (unhide HL)).mono ?_
    rintro e w1 ⟨ao, n, cap, rfl, -, hb1⟩
    rw [readV_some HX.out]
    obtain ⟨k1, hs1, hb⟩ := blk1 hb1
    have K1 := hide k1
    have HB := hide hb
    clear hb hb1 k1
    have l1 : w.heap.size < w1.heap.size := (by omega); have n1 : ¬ w.heap.size = w1.heap.size := (by omega)
    go_wp2_with fail
    refine (padded_any s 0 at_ _ _ (unhide HL) (by omega) (by omega) rfl).mono ?_
    rintro e w2 ⟨rfl, hb2⟩
    have HP : Hid ((M.mk at_ fun j => M.bz s (0 + j)) = M.mk at_ (M.bz s)) := by show _ = _; congr 1; funext j; rw [Nat.zero_add]
    rw [HP.out]
    have HPS : Hid ((M.mk at_ (M.bz s)).size = at_) := M.mk_size _ _
    have hps : (M.mk at_ (M.bz s)).size ≤ 39 := by rw [M.mk_size]; omega
    generalize M.mk at_ (M.bz s) = P at *
    have k1 := kept_block hb2 (alloc_block (unhide K1) _)
    obtain ⟨k2, hs2, hb⟩ := blk1 hb2
    obtain ⟨hx1, hf1⟩ := block_facts k1
    obtain ⟨hx2, hf2⟩ := block_facts k2
    have HB2 : Hid (Below w.heap.size w w2) := (unhide HB).trans (hb.mono (by omega))
    clear hb hb2 k1 k2 K1 HP HPS HB
    have HB := HB2
    clear HB2
    have l2 : w.heap.size < w2.heap.size := (by omega); have n2 : ¬ w.heap.size = w2.heap.size := (by omega)
    have l3 : w1.heap.size < w2.heap.size := (by omega); have n3 : ¬ w1.heap.size = w2.heap.size := (by omega)
    go_wp2_with fail
    refine (wordNumber_any s _ at_ _ (unhide HL) rfl (by omega)).mono ?_
    rintro e w' ⟨rfl, rfl⟩
    generalize M.bz s at_ * 256 + M.bz s (at_ + 1) = D at *
    go_wp2_with fail
    refine (sumOf_any (key ++ P) _ (by rw [ByteArray.size_append]; unfold maxLen; omega)).mono ?_
    rintro e w' ⟨rfl, rfl⟩
    generalize M.crc (key ++ P).data.toList = C at *
    have hbc : ((C : Int) != (D : Int)) = false := by have := HCR.out; simp; omega
    go_wp2
    refine bodyPost_ret (v := .tuple #[manOf (M.bz s) (.slice ao n cap), .bool true]) (by simp [results, Tryz.results163, go_sem, hx1]) rfl ⟨ao, n, cap, rfl, ?_⟩
    repeat (first | with_reducible exact unhide HB | with_reducible exact Below.refl _ _ | with_reducible refine bdrew ?_ | (with_reducible refine brow ?_ ?_; (focus (first | omega | (simp; done) | (simp; omega)))) | (with_reducible refine bset ?_ ?_; (focus (first | omega | (simp; done) | (simp; omega)))) | (with_reducible refine balloc ?_ ?_; (focus (first | omega | (simp; done) | (simp; omega)))) | (with_reducible refine bvia (unhide HB1) ?_ ?_; (focus (first | omega | (simp; done) | (simp; omega)))) | (with_reducible refine bvia (unhide HB2) ?_ ?_; (focus (first | omega | (simp; done) | (simp; omega)))) | (with_reducible refine bvia (unhide HB3) ?_ ?_; (focus (first | omega | (simp; done) | (simp; omega)))) | (with_reducible refine bvia (unhide HB4) ?_ ?_; (focus (first | omega | (simp; done) | (simp; omega)))) | (with_reducible refine bvia (unhide HB5) ?_ ?_; (focus (first | omega | (simp; done) | (simp; omega)))) | (with_reducible refine bvia (unhide HB6) ?_ ?_; (focus (first | omega | (simp; done) | (simp; omega)))))
set_option maxRecDepth 10000 in
set_option maxHeartbeats 1000000 in
theorem manParse_no (key s : ByteArray) (w : World) (hk : key.size ≤ 16) (hs : s.size ≤ maxLen) (h : M.isMan key s = false) :
    Calls Tryz.prog 163 #[.string key, .string s] w fun e w' => e = .returned (.tuple #[manZ, .bool false]) ∧ Below w.heap.size w w' := by
  have HL := hide hs
  unfold M.isMan at h
  cases hX : M.sealX (M.bz s) with
  | none =>
    have HX := hide hX
    clear hX h
    go_enter Tryz.func163, Tryz.ntmps163
    go_wp2_with fail
    refine (manRead_any s _ (unhide HL)).mono ?_
    rintro e w1 ⟨ao, n, cap, rfl, -, hb1⟩
    rw [readV_none HX.out]
    obtain ⟨k1, hs1, hb⟩ := blk1 hb1
    obtain ⟨hx1, hf1⟩ := block_facts k1
    have HB := hide hb
    clear hb hb1 k1
    have l1 : w.heap.size < w1.heap.size := (by omega); have n1 : ¬ w.heap.size = w1.heap.size := (by omega)
    go_wp2
    refine bodyPost_ret (v := .tuple #[manZ, .bool false]) (by simp [results, Tryz.results163, go_sem, hx1, l1]) rfl ⟨rfl, ?_⟩
    repeat (first | with_reducible exact unhide HB | with_reducible exact Below.refl _ _ | with_reducible refine bdrew ?_ | (with_reducible refine brow ?_ ?_; (focus (first | omega | (simp; done) | (simp; omega)))) | (with_reducible refine bset ?_ ?_; (focus (first | omega | (simp; done) | (simp; omega)))) | (with_reducible refine balloc ?_ ?_; (focus (first | omega | (simp; done) | (simp; omega)))) | (with_reducible refine bvia (unhide HB1) ?_ ?_; (focus (first | omega | (simp; done) | (simp; omega)))) | (with_reducible refine bvia (unhide HB2) ?_ ?_; (focus (first | omega | (simp; done) | (simp; omega)))) | (with_reducible refine bvia (unhide HB3) ?_ ?_; (focus (first | omega | (simp; done) | (simp; omega)))) | (with_reducible refine bvia (unhide HB4) ?_ ?_; (focus (first | omega | (simp; done) | (simp; omega)))) | (with_reducible refine bvia (unhide HB5) ?_ ?_; (focus (first | omega | (simp; done) | (simp; omega)))) | (with_reducible refine bvia (unhide HB6) ?_ ?_; (focus (first | omega | (simp; done) | (simp; omega)))))
  | some at_ =>
    rw [hX] at h
    have hle := M.sealX_le hX
    have hat : at_ ≤ 39 := hle.1
    have HX := hide hX
    by_cases hsz : s.size = at_ + 2
    · have hcr : M.bz s at_ * 256 + M.bz s (at_ + 1) ≠ M.crc (key ++ M.mk at_ (M.bz s)).data.toList := by
        intro e
        simp [hsz, e] at h
      have HCR := hide hcr
      have hsi : (at_ : Int) + 2 = (s.size : Int) := by omega
      have hne : ((at_ : Int) + 2 != (s.size : Int)) = false := by rw [hsi]; simp
      clear hX hcr hsz hle hsi h
      go_enter Tryz.func163, Tryz.ntmps163
      go_wp2_with fail
      refine (manRead_any s _ (unhide HL)).mono ?_
      rintro e w1 ⟨ao, n, cap, rfl, -, hb1⟩
      rw [readV_some HX.out]
      obtain ⟨k1, hs1, hb⟩ := blk1 hb1
      have K1 := hide k1
      have HB := hide hb
      clear hb hb1 k1
      have l1 : w.heap.size < w1.heap.size := (by omega); have n1 : ¬ w.heap.size = w1.heap.size := (by omega)
      go_wp2_with fail
      refine (padded_any s 0 at_ _ _ (unhide HL) (by omega) (by omega) rfl).mono ?_
      rintro e w2 ⟨rfl, hb2⟩
      have HP : Hid ((M.mk at_ fun j => M.bz s (0 + j)) = M.mk at_ (M.bz s)) := by show _ = _; congr 1; funext j; rw [Nat.zero_add]
      rw [HP.out]
      have hps : (M.mk at_ (M.bz s)).size ≤ 39 := by rw [M.mk_size]; omega
      generalize M.mk at_ (M.bz s) = P at *
      have k1 := kept_block hb2 (alloc_block (unhide K1) _)
      obtain ⟨k2, hs2, hb⟩ := blk1 hb2
      obtain ⟨hx1, hf1⟩ := block_facts k1
      obtain ⟨hx2, hf2⟩ := block_facts k2
      have HB2 : Hid (Below w.heap.size w w2) := (unhide HB).trans (hb.mono (by omega))
      clear hb hb2 k1 k2 K1 HP HB
      have HB := HB2
      clear HB2
      have l2 : w.heap.size < w2.heap.size := (by omega); have n2 : ¬ w.heap.size = w2.heap.size := (by omega)
      have l3 : w1.heap.size < w2.heap.size := (by omega); have n3 : ¬ w1.heap.size = w2.heap.size := (by omega)
      go_wp2_with fail
      refine (wordNumber_any s _ at_ _ (unhide HL) rfl (by omega)).mono ?_
      rintro e w' ⟨rfl, rfl⟩
      generalize M.bz s at_ * 256 + M.bz s (at_ + 1) = D at *
      go_wp2_with fail
      refine (sumOf_any (key ++ P) _ (by rw [ByteArray.size_append]; unfold maxLen; omega)).mono ?_
      rintro e w' ⟨rfl, rfl⟩
      generalize M.crc (key ++ P).data.toList = C at *
      have hbc : ((C : Int) != (D : Int)) = true := by have := HCR.out; simp; omega
      go_wp2
      refine bodyPost_ret (v := .tuple #[manZ, .bool false]) (by simp [results, Tryz.results163, go_sem, hx1]) rfl ⟨rfl, ?_⟩
      repeat (first | with_reducible exact unhide HB | with_reducible exact Below.refl _ _ | with_reducible refine bdrew ?_ | (with_reducible refine brow ?_ ?_; (focus (first | omega | (simp; done) | (simp; omega)))) | (with_reducible refine bset ?_ ?_; (focus (first | omega | (simp; done) | (simp; omega)))) | (with_reducible refine balloc ?_ ?_; (focus (first | omega | (simp; done) | (simp; omega)))) | (with_reducible refine bvia (unhide HB1) ?_ ?_; (focus (first | omega | (simp; done) | (simp; omega)))) | (with_reducible refine bvia (unhide HB2) ?_ ?_; (focus (first | omega | (simp; done) | (simp; omega)))) | (with_reducible refine bvia (unhide HB3) ?_ ?_; (focus (first | omega | (simp; done) | (simp; omega)))) | (with_reducible refine bvia (unhide HB4) ?_ ?_; (focus (first | omega | (simp; done) | (simp; omega)))) | (with_reducible refine bvia (unhide HB5) ?_ ?_; (focus (first | omega | (simp; done) | (simp; omega)))) | (with_reducible refine bvia (unhide HB6) ?_ ?_; (focus (first | omega | (simp; done) | (simp; omega)))))
    · have hne : ((at_ : Int) + 2 != (s.size : Int)) = true := by simp; omega
      clear hX hle h
      go_enter Tryz.func163, Tryz.ntmps163
      go_wp2_with fail
      refine (manRead_any s _ (unhide HL)).mono ?_
      rintro e w1 ⟨ao, n, cap, rfl, -, hb1⟩
      rw [readV_some HX.out]
      obtain ⟨k1, hs1, hb⟩ := blk1 hb1
      obtain ⟨hx1, hf1⟩ := block_facts k1
      have HB := hide hb
      clear hb hb1 k1
      have l1 : w.heap.size < w1.heap.size := (by omega); have n1 : ¬ w.heap.size = w1.heap.size := (by omega)
      go_wp2
      refine bodyPost_ret (v := .tuple #[manZ, .bool false]) (by simp [results, Tryz.results163, go_sem, hx1, l1]) rfl ⟨rfl, ?_⟩
      repeat (first | with_reducible exact unhide HB | with_reducible exact Below.refl _ _ | with_reducible refine bdrew ?_ | (with_reducible refine brow ?_ ?_; (focus (first | omega | (simp; done) | (simp; omega)))) | (with_reducible refine bset ?_ ?_; (focus (first | omega | (simp; done) | (simp; omega)))) | (with_reducible refine balloc ?_ ?_; (focus (first | omega | (simp; done) | (simp; omega)))) | (with_reducible refine bvia (unhide HB1) ?_ ?_; (focus (first | omega | (simp; done) | (simp; omega)))) | (with_reducible refine bvia (unhide HB2) ?_ ?_; (focus (first | omega | (simp; done) | (simp; omega)))) | (with_reducible refine bvia (unhide HB3) ?_ ?_; (focus (first | omega | (simp; done) | (simp; omega)))) | (with_reducible refine bvia (unhide HB4) ?_ ?_; (focus (first | omega | (simp; done) | (simp; omega)))) | (with_reducible refine bvia (unhide HB5) ?_ ?_; (focus (first | omega | (simp; done) | (simp; omega)))) | (with_reducible refine bvia (unhide HB6) ?_ ?_; (focus (first | omega | (simp; done) | (simp; omega)))))
/-- is t chunk i of the manifest g? -/
def tellsB (g : Nat → Nat) (i : Int) (t : ByteArray) : Bool :=
  !decide (i < 0 ∨ (M.chunksN (g 4) : Int) ≤ i ∨ t.size ≠ M.chunkLen (g 4) i.toNat ∨ M.crc t.data.toList ≠ M.numAt g (8 + 2 * i.toNat))
def passB (g : Nat → Nat) (s : ByteArray) : Bool := !M.exB g || (decide (evalNum s (M.exQ g) = 0) && decide (evalTxt s (M.exQ g) = M.exA g))
set_option maxRecDepth 10000 in
theorem manPassed_any (g : Nat → Nat) (v : Value) (s : ByteArray) (w : World) (hs : s.size ≤ maxLen) (hq : (M.exQ g).size ≤ maxLen) :
    Calls Tryz.prog 202 #[manOf g v, .string s] w fun e w' => e = .returned (.bool (passB g s)) ∧ Below w.heap.size w w' := by
  have HP : Hid (passB g s = (!M.exB g || (decide (evalNum s (M.exQ g) = 0) && decide (evalTxt s (M.exQ g) = M.exA g)))) := rfl
  have HA := hide (fun W => netAnswer_any s (M.exQ g) W hs hq)
  unfold manOf
  generalize M.exQ g = q at *
  generalize M.exA g = a at *
  generalize M.numAt g 0 = a0 at *
  generalize M.numAt g 2 = a2 at *
  generalize M.numAt g 6 = a6 at *
  generalize g 4 = a4 at *
  generalize g 5 = a5 at *
  cases hx : M.exB g
  · rw [hx] at HP
    go_enter Tryz.func202, Tryz.ntmps202
    go_wp2
    go_ret
    exact ⟨ret_bool HP.out.symm, (Below.refl _ _).alloc (Nat.le_refl _) _⟩
  · rw [hx] at HP
    go_enter Tryz.func202, Tryz.ntmps202
    go_wp2_with fail
    refine (unhide HA _).mono ?_
    rintro e w1 ⟨rfl, hb1⟩
    obtain ⟨k1, hs1, hb⟩ := blk1 hb1
    obtain ⟨hx1, hf1⟩ := block_facts k1
    have HB := hide hb
    clear hb hb1 k1
    generalize evalNum s q = en at *
    generalize evalTxt s q = et at *
    by_cases h0 : en = 0
    · subst h0
      by_cases h1 : et = a
      · subst h1
        go_wp2
        go_ret
        exact ⟨ret_bool (by rw [HP.out]; simp), unhide HB⟩
      · have HN := hide h1
        clear h1
        go_wp2
        go_ret
        exact ⟨ret_bool (by rw [HP.out, decide_eq_false HN.out]; simp; exact fun e => HN.out (text_inj e)), unhide HB⟩
    · go_wp2
      go_ret
      exact ⟨ret_bool (by rw [HP.out]; simp [h0]), unhide HB⟩
theorem tells_true {g : Nat → Nat} {i : Nat} {t : ByteArray} (hi : i < M.chunksN (g 4)) (hl : t.size = M.chunkLen (g 4) i) (hc : M.crc t.data.toList = M.numAt g (8 + 2 * i)) : tellsB g i t = true := by
  unfold tellsB
  rw [Int.toNat_natCast]
  simp [hl, hc]
  omega
theorem tells_false {g : Nat → Nat} {i : Int} {t : ByteArray} (h : i < 0 ∨ (M.chunksN (g 4) : Int) ≤ i ∨ t.size ≠ M.chunkLen (g 4) i.toNat ∨ M.crc t.data.toList ≠ M.numAt g (8 + 2 * i.toNat)) : tellsB g i t = false := by
  unfold tellsB
  rw [decide_eq_true h]
  rfl
set_option maxRecDepth 10000 in
set_option maxHeartbeats 1000000 in
theorem manTells_any (g : Nat → Nat) (ao : Option Addr) (cap : Nat) (i : Int) (t : ByteArray) (w : World) (h1 : 1 ≤ g 4) (h2 : g 4 ≤ 96) (ht : t.size ≤ maxLen) (hrow : HoldsRow w (.slice ao (M.chunksN (g 4)) cap) (M.chunksN (g 4)) (intCells (M.sumsL g (M.chunksN (g 4))))) :
    Calls Tryz.prog 167 #[manOf g (.slice ao (M.chunksN (g 4)) cap), .int .i64 i, .string t] w fun e w' => e = .returned (.bool (tellsB g i t)) ∧ Below w.heap.size w w' := by
  have hc6 : M.chunksN (g 4) ≤ 6 := by unfold M.chunksN; omega
  have hcp : 16 * M.chunksN (g 4) ≤ g 4 + 15 := by unfold M.chunksN; omega
  have HT := hide ht
  unfold manOf
  by_cases h0 : i < 0
  · have HE := hide (tells_false (g := g) (t := t) (.inl h0))
    generalize M.chunksN (g 4) = c at *
    clear hrow
    go_enter Tryz.func167, Tryz.ntmps167
    go_wp2
    go_ret
    exact ⟨ret_bool HE.out.symm, (Below.refl _ _).alloc (Nat.le_refl _) _⟩
  by_cases hc : (M.chunksN (g 4) : Int) ≤ i
  · have HE := hide (tells_false (g := g) (t := t) (.inr (.inl hc)))
    generalize M.chunksN (g 4) = c at *
    clear hrow
    go_enter Tryz.func167, Tryz.ntmps167
    go_wp2
    go_ret
    exact ⟨ret_bool HE.out.symm, (Below.refl _ _).alloc (Nat.le_refl _) _⟩
  obtain ⟨k, rfl⟩ := Int.eq_ofNat_of_zero_le (by omega : 0 ≤ i)
  have hk : k < M.chunksN (g 4) := by omega
  have hle : 16 * k ≤ g 4 := by omega
  by_cases hl : t.size = M.chunkLen (g 4) k
  · have HL := hide hl
    have hneq : ((t.size : Int) != ((M.chunkLen (g 4) k : Nat) : Int)) = false := by rw [hl]; simp
    obtain ⟨ao', cap', hv, _, hcap, hcell⟩ := hrow.shape
    cases hv
    obtain ⟨b, rfl, hb, hcells⟩ := hcell (by omega)
    have hsum : (intCells (M.sumsL g (M.chunksN (g 4))))[k]? = some (.int .i64 (M.numAt g (8 + 2 * k) : Nat)) := by
      rw [intCells_at (by rw [M.sumsL_length]; exact hk), M.sumsL_at g hk]
    have hx := hcells k _ hsum
    have HE : Hid (tellsB g k t = decide (M.crc t.data.toList = M.numAt g (8 + 2 * k))) := by
      show _ = _
      by_cases he : M.crc t.data.toList = M.numAt g (8 + 2 * k)
      · rw [tells_true hk hl he, decide_eq_true he]
      · rw [tells_false (.inr (.inr (.inr (by rw [Int.toNat_natCast]; exact he)))), decide_eq_false he]
    clear hcells hsum hcell hrow hl
    have HSZ := hide (fun W => manSize_any (M.numAt g 0) (M.numAt g 2) (M.numAt g 6) (g 5) (g 4) k (.slice (some ⟨b, 0, none⟩) (M.chunksN (g 4)) cap) (M.exB g) (M.exQ g) (M.exA g) W (by omega) (by omega) hle)
    have HSM := hide (fun W => sumOf_any t W ht)
    generalize M.chunkLen (g 4) k = L at *
    generalize M.crc t.data.toList = C at *
    generalize M.numAt g (8 + 2 * k) = D at *
    generalize hcc : M.chunksN (g 4) = c at *
    have HCC := hide hcc
    clear hcc
    have l1 : b < w.heap.size := (by omega); have n1 : ¬ b = w.heap.size := (by omega)
    go_enter Tryz.func167, Tryz.ntmps167
    go_wp2_with fail
    refine (unhide HSZ _).mono ?_
    rintro e w1 ⟨rfl, hb1⟩
    obtain ⟨k1, hs1, hb2⟩ := blk1 hb1
    obtain ⟨hx1, hf1⟩ := block_facts k1
    have hxb : w1.cell? ⟨b, k, none⟩ = some (.int .i64 D) := (hb2.cell (p := ⟨b, k, none⟩) l1).trans hx
    have hx5 : w1.cell? ⟨w.heap.size, 5, none⟩ = some (.slice (some ⟨b, 0, none⟩) c cap) := hx1 5
    have HB := hide hb2
    clear hb1 hb2 k1 hx HSZ hx1
    go_wp2_with fail
    go_region_held3 (fun X => X.cell? ⟨w.heap.size, 5, none⟩ = some (.slice (some ⟨b, 0, none⟩) c cap) ∧ X.cell? ⟨b, k, none⟩ = some (.int .i64 D)) (go_keep) ((go_at_call 187; refine (unhide HSM _).mono ?_; rintro e w' ⟨rfl, rfl⟩))
    all_goals
      go_wp2
      go_ret
      exact ⟨ret_bool (by rw [HE.out, Bool.eq_iff_iff]; simp; try omega), (unhide HB).drew⟩
  · have HE := hide (tells_false (g := g) (i := (k : Int)) (t := t) (.inr (.inr (.inl (by rw [Int.toNat_natCast]; exact hl)))))
    have hneq : ((t.size : Int) != ((M.chunkLen (g 4) k : Nat) : Int)) = true := by simp; omega
    obtain ⟨ao', cap', hv, _, hcap, hcell⟩ := hrow.shape
    cases hv
    have HSZ := hide (fun W => manSize_any (M.numAt g 0) (M.numAt g 2) (M.numAt g 6) (g 5) (g 4) k (.slice ao (M.chunksN (g 4)) cap) (M.exB g) (M.exQ g) (M.exA g) W (by omega) (by omega) hle)
    clear hcell hrow hl
    generalize M.chunkLen (g 4) k = L at *
    generalize hcc : M.chunksN (g 4) = c at *
    have HCC := hide hcc
    clear hcc
    go_enter Tryz.func167, Tryz.ntmps167
    go_wp2_with fail
    refine (unhide HSZ _).mono ?_
    rintro e w1 ⟨rfl, hb1⟩
    have HB := hide (blk1 hb1).2.2
    clear hb1
    go_wp2
    go_ret
    exact ⟨ret_bool HE.out.symm, unhide HB⟩
end Go.Proofs.YtjfmiomopfjecabGreat

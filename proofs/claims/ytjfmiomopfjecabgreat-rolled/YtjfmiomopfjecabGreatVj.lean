/- Texts laid together: KeepWork. -/
import Derived.Test.YtjfmiomopfjecabGreatVi
import Derived.Test.YtjfmiomopfjecabGreatVf
import Derived.Test.YtjfmiomopfjecabGreatVa
import Derived.Test.YtjfmiomopfjecabGreatVb
import Derived.Test.YtjfmiomopfjecabGreatVc
import Derived.Test.YtjfmiomopfjecabGreatVd
import Derived.Test.YtjfmiomopfjecabGreatVe
import Derived.Test.YtjfmiomopfjecabGreatVg
import Derived.Test.YtjfmiomopfjecabGreatVh
/- A change, worked out: the walk. -/
namespace Go.Proofs.YtjfmiomopfjecabGreat
open Go.RowKit Go.Lib

theorem fill8 {X : World} {q : Nat} {z0 z1 z2 z3 z4 z5 z6 z7 a0 a1 a2 a3 a4 a5 a6 a7 : Value} {t : TypeId} (h : X.heap[q]? = some (.cells #[z0, z1, z2, z3, z4, z5, z6, z7] t (0, 0))) :
    ((((((((X.setCell ⟨q, 0, none⟩ a0).setCell ⟨q, 1, none⟩ a1).setCell ⟨q, 2, none⟩ a2).setCell ⟨q, 3, none⟩ a3).setCell ⟨q, 4, none⟩ a4).setCell ⟨q, 5, none⟩ a5).setCell ⟨q, 6, none⟩ a6).setCell ⟨q, 7, none⟩ a7).heap[q]? = some (.cells #[a0, a1, a2, a3, a4, a5, a6, a7] t (0, 0)) :=
  by
  have h0 : (X.setCell ⟨q, 0, none⟩ a0).heap[q]? = some (.cells #[a0, z1, z2, z3, z4, z5, z6, z7] t (0, 0)) := (setCell_in h 0 a0).trans rfl
  have h1 : ((X.setCell ⟨q, 0, none⟩ a0).setCell ⟨q, 1, none⟩ a1).heap[q]? = some (.cells #[a0, a1, z2, z3, z4, z5, z6, z7] t (0, 0)) := (setCell_in h0 1 a1).trans rfl
  have h2 : (((X.setCell ⟨q, 0, none⟩ a0).setCell ⟨q, 1, none⟩ a1).setCell ⟨q, 2, none⟩ a2).heap[q]? = some (.cells #[a0, a1, a2, z3, z4, z5, z6, z7] t (0, 0)) := (setCell_in h1 2 a2).trans rfl
  have h3 : ((((X.setCell ⟨q, 0, none⟩ a0).setCell ⟨q, 1, none⟩ a1).setCell ⟨q, 2, none⟩ a2).setCell ⟨q, 3, none⟩ a3).heap[q]? = some (.cells #[a0, a1, a2, a3, z4, z5, z6, z7] t (0, 0)) := (setCell_in h2 3 a3).trans rfl
  have h4 : (((((X.setCell ⟨q, 0, none⟩ a0).setCell ⟨q, 1, none⟩ a1).setCell ⟨q, 2, none⟩ a2).setCell ⟨q, 3, none⟩ a3).setCell ⟨q, 4, none⟩ a4).heap[q]? = some (.cells #[a0, a1, a2, a3, a4, z5, z6, z7] t (0, 0)) := (setCell_in h3 4 a4).trans rfl
  have h5 : ((((((X.setCell ⟨q, 0, none⟩ a0).setCell ⟨q, 1, none⟩ a1).setCell ⟨q, 2, none⟩ a2).setCell ⟨q, 3, none⟩ a3).setCell ⟨q, 4, none⟩ a4).setCell ⟨q, 5, none⟩ a5).heap[q]? = some (.cells #[a0, a1, a2, a3, a4, a5, z6, z7] t (0, 0)) := (setCell_in h4 5 a5).trans rfl
  have h6 : (((((((X.setCell ⟨q, 0, none⟩ a0).setCell ⟨q, 1, none⟩ a1).setCell ⟨q, 2, none⟩ a2).setCell ⟨q, 3, none⟩ a3).setCell ⟨q, 4, none⟩ a4).setCell ⟨q, 5, none⟩ a5).setCell ⟨q, 6, none⟩ a6).heap[q]? = some (.cells #[a0, a1, a2, a3, a4, a5, a6, z7] t (0, 0)) := (setCell_in h5 6 a6).trans rfl
  have h7 : ((((((((X.setCell ⟨q, 0, none⟩ a0).setCell ⟨q, 1, none⟩ a1).setCell ⟨q, 2, none⟩ a2).setCell ⟨q, 3, none⟩ a3).setCell ⟨q, 4, none⟩ a4).setCell ⟨q, 5, none⟩ a5).setCell ⟨q, 6, none⟩ a6).setCell ⟨q, 7, none⟩ a7).heap[q]? = some (.cells #[a0, a1, a2, a3, a4, a5, a6, a7] t (0, 0)) := (setCell_in h6 7 a7).trans rfl
  exact h7
abbrev chgC (c : Chg) : Array Value := #[.int .i64 c.i1, .int .i64 c.o1, .string c.t1, .string c.s1, .int .i64 c.i2, .int .i64 c.o2, .string c.t2, .string c.s2, .string c.key, .int .i64 c.base, .int .i64 c.up, .bool c.diffed, .bool c.shown, .string c.ask]
set_option maxRecDepth 10000 in
set_option maxHeartbeats 4000000 in
theorem worked_00 (c : Chg) (W : World) (K1 O1 N1 P1 OP MN : ByteArray) (ba u : Nat) (hba : ba ≤ 65534) (hN : N1.size ≤ 96) (hP1 : P1.size = 1) (hOP : ⟨#[1]⟩ ++ P1 ++ N1 = OP)
    (hd : c.diffed = false) (he : c.shown = false)
    (h1 : ∀ X : World, Calls Tryz.prog 42 #[.string c.key, .int .i64 16] X fun e w' => e = .returned (.string K1) ∧ X = w')
    (h2 : ∀ X : World, Calls Tryz.prog 53 #[.agg #[.int .i64 c.i1, .int .i64 c.o1, .string c.t1, .string c.s1]] X fun e w' => e = .returned (.string O1) ∧ Below X.heap.size X w')
    (h3 : ∀ X : World, Calls Tryz.prog 53 #[.agg #[.int .i64 c.i2, .int .i64 c.o2, .string c.t2, .string c.s2]] X fun e w' => e = .returned (.string N1) ∧ Below X.heap.size X w')
    (h4 : ∀ X : World, Calls Tryz.prog 25 #[.int .i64 c.base, .int .i64 0, .int .i64 65534] X fun e w' => e = .returned (.int .i64 ba) ∧ X = w')
    (h5 : ∀ X : World, Calls Tryz.prog 25 #[.int .i64 c.up, .int .i64 ((ba : Int) + 1), .int .i64 65535] X fun e w' => e = .returned (.int .i64 u) ∧ X = w')
    (h6 : ∀ X : World, Calls Tryz.prog 40 #[.int .i64 N1.size] X fun e w' => e = .returned (.string P1) ∧ Below X.heap.size X w')
    (h12 : ∀ X : World, Calls Tryz.prog 20 #[.agg #[.string K1, .string O1, .string N1, .int .i64 ba, .int .i64 u, .string OP, .string ⟨#[0]⟩, .string ⟨#[]⟩], .int .i64 ba, .int .i64 u] X fun e w' => e = .returned (.string MN) ∧ Below X.heap.size X w') :
    Calls Tryz.prog 32 #[chgV c] W fun e w' => e = .returned (.tuple #[.agg #[.string K1, .string O1, .string N1, .int .i64 ba, .int .i64 u, .string OP, .string ⟨#[0]⟩, .string MN], .bool true]) ∧ Below W.heap.size W w' := by
  have H1 := hide h1
  have H2 := hide h2
  have H3 := hide h3
  have H4 := hide h4
  have H5 := hide h5
  have H6 := hide h6
  have H12 := hide h12
  have HOP := hide hOP
  have HD := hide hd
  have HE := hide he
  clear h1 h2 h3 h4 h5 h6 h12 hd he hOP
  have HBL : Hid (Below W.heap.size W ((W.alloc (.cells (chgC c) 25)).alloc (.cells #[.string ⟨#[]⟩, .string ⟨#[]⟩, .string ⟨#[]⟩, .int .i64 0, .int .i64 0, .string ⟨#[]⟩, .string ⟨#[]⟩, .string ⟨#[]⟩] 30)).drew) := (((Below.refl _ _).alloc (Nat.le_refl _) _).alloc (by simp) _).drew
  have hC := drew_block (first_block W (.cells (chgC c) 25) (.cells #[.string ⟨#[]⟩, .string ⟨#[]⟩, .string ⟨#[]⟩, .int .i64 0, .int .i64 0, .string ⟨#[]⟩, .string ⟨#[]⟩, .string ⟨#[]⟩] 30))
  have hR := drew_block (last_block (W.alloc (.cells (chgC c) 25)) (.cells #[.string ⟨#[]⟩, .string ⟨#[]⟩, .string ⟨#[]⟩, .int .i64 0, .int .i64 0, .string ⟨#[]⟩, .string ⟨#[]⟩, .string ⟨#[]⟩] 30) (n := W.heap.size + 1) (by simp))
  have hsz : W.heap.size + 2 ≤ (((W.alloc (.cells (chgC c) 25)).alloc (.cells #[.string ⟨#[]⟩, .string ⟨#[]⟩, .string ⟨#[]⟩, .int .i64 0, .int .i64 0, .string ⟨#[]⟩, .string ⟨#[]⟩, .string ⟨#[]⟩] 30)).drew).heap.size := by show _ ≤ ((W.alloc _).alloc _).heap.size; simp
  go_enter Tryz.func32, Tryz.ntmps32
  go_wp2_with fail
  refine cut_code (fun a X => ∃ (q : Nat) (x11 x12 x13 x14 x15 x16 x17 x18 x19 x20 : Value), a = ⟨#[chgV c, .pointer (some ⟨W.heap.size, 0, none⟩), .pointer (some ⟨W.heap.size + 1, 0, none⟩), .bool false, .pointer (some ⟨q, 0, none⟩), undef, undef, undef, undef, undef, undef, x11, x12, x13, x14, x15, x16, x17, x18, x19, x20, undef, undef, undef, undef, undef, undef, undef, undef, undef, undef, undef, undef, undef, undef, undef, undef, undef, undef, undef, undef, undef, undef, undef, undef, undef, undef, undef, undef, undef, undef, undef, undef, undef, undef, undef, undef, undef, undef, undef, undef, undef, undef, undef, undef, undef, undef, undef, undef, undef, undef, undef, undef, undef, undef, undef, undef, undef, undef, undef, undef, undef, undef, undef, undef, undef, undef, undef, undef, undef, undef, undef, undef, undef, undef, undef, undef, undef, undef, undef, undef, undef, undef, undef, undef, undef, undef], []⟩ ∧ X.heap[q]? = some (.cells #[.string K1, .string O1, .string N1, .int .i64 0, .int .i64 0, .string ⟨#[]⟩, .string ⟨#[]⟩, .string ⟨#[]⟩] 30 (0, 0)) ∧ X.heap[W.heap.size]? = some (.cells (chgC c) 25 (0, 0)) ∧ X.heap[W.heap.size + 1]? = some (.cells #[.string ⟨#[]⟩, .string ⟨#[]⟩, .string ⟨#[]⟩, .int .i64 0, .int .i64 0, .string ⟨#[]⟩, .string ⟨#[]⟩, .string ⟨#[]⟩] 30 (0, 0)) ∧ W.heap.size + 2 ≤ q ∧ Below W.heap.size W X) ?_ ?_
  · have rule2 : ∀ (X : World) (o : Nat), X.heap[W.heap.size]? = some (.cells (chgC c) 25 (0, 0)) → X.cell? ⟨W.heap.size, o, none⟩ = (chgC c)[o]? := fun X o h => cell_in h o
    go_region_held3 (fun X => X.heap[W.heap.size]? = some (.cells (chgC c) 25 (0, 0))) (repeat (first | with_reducible exact hC | with_reducible exact first_block _ _ _ | with_reducible refine ablk ?_ | with_reducible refine drew_block ?_ | (with_reducible refine sblk ?_ ?_; (focus omega)))) ((first
      | (go_at_call 42; with_reducible refine (unhide H1 _).mono ?_; rintro y wN ⟨rfl, rfl⟩)
      | (go_at_call 53; (first | with_reducible refine (unhide H2 _).mono ?_ | with_reducible refine (unhide H3 _).mono ?_); rintro y wN ⟨rfl, hbN⟩; (first | (have hK := kept_block hbN (last_block _ _ rfl)) | (have hK := kept_block hbN hK) | (have hK := kept_block hbN (drew_block (last_block _ _ rfl)))); (try simp only [World.size_alloc] at hK); have hNx := (block_facts hK).1; have hNf := (block_facts hK).2; have hNl := (Array.getElem?_eq_some_iff.1 hK).1; have hC : wN.heap[W.heap.size]? = some (.cells (chgC c) 25 (0, 0)) := kept_block hbN (by repeat (first | with_reducible exact hC | with_reducible exact first_block _ _ _ | with_reducible refine ablk ?_ | with_reducible refine drew_block ?_)); have hR : wN.heap[W.heap.size + 1]? = some (.cells #[.string ⟨#[]⟩, .string ⟨#[]⟩, .string ⟨#[]⟩, .int .i64 0, .int .i64 0, .string ⟨#[]⟩, .string ⟨#[]⟩, .string ⟨#[]⟩] 30 (0, 0)) := kept_block hbN (by repeat (first | with_reducible exact hR | (with_reducible refine last_block _ _ ?_; (focus (simp; done))) | with_reducible refine ablk ?_ | with_reducible refine drew_block ?_)); have HBL : Hid (Below W.heap.size W wN) := Below.trans (by repeat (first | with_reducible exact unhide HBL | with_reducible exact Below.refl _ _ | with_reducible refine bdrew ?_ | (with_reducible refine balloc ?_ ?_; (focus (first | omega | (simp; done) | (simp; omega)))))) (hbN.mono (by first | omega | (simp; done) | (simp; omega) | (show _ ≤ (World.alloc _ _).heap.size; simp; done) | (show _ ≤ (World.alloc _ _).heap.size; simp; omega))); have hsz : W.heap.size + 2 ≤ wN.heap.size := Nat.le_trans (by first | exact hsz | (simp; done) | (simp; omega) | (show _ ≤ (World.alloc _ _).heap.size; simp; done) | (show _ ≤ (World.alloc _ _).heap.size; simp; omega)) hbN.size)))
    all_goals
      have HBW := HBL
      refine ⟨rfl, _, _, _, _, _, _, _, _, _, _, _, rfl, ?_, ?_, ?_, ?_, ?_⟩
      · first | (with_reducible exact last_block _ _ rfl) | (with_reducible exact fill8 hK)
      · repeat (first | with_reducible exact hC | with_reducible refine ablk ?_ | with_reducible refine drew_block ?_ | (with_reducible refine sblk ?_ ?_; (focus (first | omega | (simp; done) | (simp; omega)))))
      · repeat (first | with_reducible exact hR | with_reducible refine ablk ?_ | with_reducible refine drew_block ?_ | (with_reducible refine sblk ?_ ?_; (focus (first | omega | (simp; done) | (simp; omega)))))
      · first | omega | (simp; done) | (simp; omega)
      · repeat (first | with_reducible exact unhide HBW | with_reducible refine bdrew ?_ | (with_reducible refine bset ?_ ?_; (focus (first | omega | (simp; done) | (simp; omega)))) | (with_reducible refine balloc ?_ ?_; (focus (first | omega | (simp; done) | (simp; omega)))))
  · rintro _ W4 ⟨q, x11, x12, x13, x14, x15, x16, x17, x18, x19, x20, rfl, qJ, qC, qR, hq, hbW⟩
    have hql := (Array.getElem?_eq_some_iff.1 qJ).1
    have n1 : ¬ W.heap.size = q := by omega
    have n2 : ¬ W.heap.size + 1 = q := by omega
    obtain ⟨hxC, hfC⟩ := block_facts qC
    obtain ⟨hxJ, hfJ⟩ := block_facts qJ
    have QJ := hide qJ
    have QC := hide qC
    have QR := hide qR
    have HBW := hide hbW
    clear qJ qC qR hbW HBL hC hR hsz H1 H2 H3
    go_wp2_with fail
    refine (unhide H4 _).mono ?_
    rintro e _ ⟨rfl, rfl⟩
    go_wp2_with fail
    refine (unhide H5 _).mono ?_
    rintro e _ ⟨rfl, rfl⟩
    go_wp2_with fail
    have QJ2 : Hid (((W4.setCell ⟨q, 3, none⟩ (.int .i64 ba)).setCell ⟨q, 4, none⟩ (.int .i64 u)).heap[q]? = some (.cells #[.string K1, .string O1, .string N1, .int .i64 ba, .int .i64 u, .string ⟨#[]⟩, .string ⟨#[]⟩, .string ⟨#[]⟩] 30 (0, 0))) := (setCell_in (setCell_in (unhide QJ) 3 _) 4 _).trans rfl
    have QC2 : Hid (((W4.setCell ⟨q, 3, none⟩ (.int .i64 ba)).setCell ⟨q, 4, none⟩ (.int .i64 u)).heap[W.heap.size]? = some (.cells (chgC c) 25 (0, 0))) := set_block (set_block (unhide QC) (by omega)) (by omega)
    have QR2 : Hid (((W4.setCell ⟨q, 3, none⟩ (.int .i64 ba)).setCell ⟨q, 4, none⟩ (.int .i64 u)).heap[W.heap.size + 1]? = some (.cells #[.string ⟨#[]⟩, .string ⟨#[]⟩, .string ⟨#[]⟩, .int .i64 0, .int .i64 0, .string ⟨#[]⟩, .string ⟨#[]⟩, .string ⟨#[]⟩] 30 (0, 0))) := set_block (set_block (unhide QR) (by omega)) (by omega)
    have HBW2 : Hid (Below W.heap.size W ((W4.setCell ⟨q, 3, none⟩ (.int .i64 ba)).setCell ⟨q, 4, none⟩ (.int .i64 u))) := bset (by omega) (bset (by omega) (unhide HBW))
    have hql2 : q < ((W4.setCell ⟨q, 3, none⟩ (.int .i64 ba)).setCell ⟨q, 4, none⟩ (.int .i64 u)).heap.size := (Array.getElem?_eq_some_iff.1 (unhide QJ2)).1
    clear hxC hfC hxJ hfJ QJ QC QR HBW H4 H5 hql
    generalize ((W4.setCell ⟨q, 3, none⟩ (.int .i64 ba)).setCell ⟨q, 4, none⟩ (.int .i64 u)) = X1 at *
    have p1 : ¬ 9223372036854775807 < 1 + 1 + N1.size := by omega
    have p2 : ¬ 9223372036854775807 < 2 + N1.size := by omega
    have hc2 : X1.cell? ⟨q, 2, none⟩ = some (.string N1) := cell_in (unhide QJ2) 2
    obtain ⟨hxJ, hfJ⟩ := block_facts (unhide QJ2)
    clear hxJ
    go_region_held3 (fun X => X.cell? ⟨q, 2, none⟩ = some (.string N1)) (first | assumption | (with_reducible exact hc2) | (with_reducible exact drew_cell hc2) | exact (cell_in (setCell_in hJ5 5 _) 2).trans rfl) ((go_at_call 40; with_reducible refine (unhide H6 _).mono ?_; rintro y w5 ⟨rfl, hb5⟩; have hJ5 : w5.heap[q]? = some (.cells #[.string K1, .string O1, .string N1, .int .i64 ba, .int .i64 u, .string ⟨#[]⟩, .string ⟨#[]⟩, .string ⟨#[]⟩] 30 (0, 0)) := kept_block hb5 (by repeat (first | with_reducible exact unhide QJ2 | with_reducible refine drew_block ?_)); have hc5 : w5.cell? ⟨q, 2, none⟩ = some (.string N1) := (cell_in hJ5 2).trans rfl; have hx5 := (block_facts hJ5).1; have hf5 := (block_facts hJ5).2))
    all_goals
      have QJ3 : Hid ((w5.setCell ⟨q, 5, none⟩ (.string (⟨#[1]⟩ ++ P1 ++ N1))).heap[q]? = some (.cells #[.string K1, .string O1, .string N1, .int .i64 ba, .int .i64 u, .string OP, .string ⟨#[]⟩, .string ⟨#[]⟩] 30 (0, 0))) := (setCell_in hJ5 5 _).trans (by rw [HOP.out]; rfl)
      have HBD : Below W.heap.size W X1.drew := bdrew (unhide HBW2)
      have QC3 : Hid ((w5.setCell ⟨q, 5, none⟩ (.string (⟨#[1]⟩ ++ P1 ++ N1))).heap[W.heap.size]? = some (.cells (chgC c) 25 (0, 0))) := set_block (kept_block hb5 (drew_block (unhide QC2))) n1
      have QR3 : Hid ((w5.setCell ⟨q, 5, none⟩ (.string (⟨#[1]⟩ ++ P1 ++ N1))).heap[W.heap.size + 1]? = some (.cells #[.string ⟨#[]⟩, .string ⟨#[]⟩, .string ⟨#[]⟩, .int .i64 0, .int .i64 0, .string ⟨#[]⟩, .string ⟨#[]⟩, .string ⟨#[]⟩] 30 (0, 0))) := set_block (kept_block hb5 (drew_block (unhide QR2))) n2
      have HBW3 : Hid (Below W.heap.size W (w5.setCell ⟨q, 5, none⟩ (.string (⟨#[1]⟩ ++ P1 ++ N1)))) := bset (by omega) (HBD.trans (hb5.mono HBD.size))
      clear hJ5 hc5 hx5 hf5 hb5 HBD QJ2 QC2 QR2 HBW2 hc2 hfJ hql2 H6
      try clear hHeld
      rw [HOP.out] at QJ3 QC3 QR3 HBW3 ⊢
      generalize (w5.setCell ⟨q, 5, none⟩ (.string OP)) = X2 at *
      clear HOP p1 p2
      obtain ⟨hxC, hfC⟩ := block_facts (unhide QC3)
      obtain ⟨hxJ, hfJ⟩ := block_facts (unhide QJ3)
      have hql3 := (Array.getElem?_eq_some_iff.1 (unhide QJ3)).1
      have hd := HD.out
      have he := HE.out
      clear HD HE
      go_wp2_with fail
      clear hql3
      with_reducible refine (unhide H12 _).mono ?_
      rintro e w11 ⟨rfl, hb11⟩
      have qj30 : (X2.setCell ⟨q, 6, none⟩ (.string ⟨#[0]⟩)).heap[q]? = some (.cells #[.string K1, .string O1, .string N1, .int .i64 ba, .int .i64 u, .string OP, .string ⟨#[0]⟩, .string ⟨#[]⟩] 30 (0, 0)) := (setCell_in (unhide QJ3) 6 _).trans rfl
      have HBX4 : Below W.heap.size W (X2.setCell ⟨q, 6, none⟩ (.string ⟨#[0]⟩)) := (bset (by omega) (unhide HBW3))
      have QJ4 : Hid (w11.heap[q]? = some (.cells #[.string K1, .string O1, .string N1, .int .i64 ba, .int .i64 u, .string OP, .string ⟨#[0]⟩, .string ⟨#[]⟩] 30 (0, 0))) := kept_block hb11 qj30
      have QC4 : Hid (w11.heap[W.heap.size]? = some (.cells (chgC c) 25 (0, 0))) := kept_block hb11 (set_block (unhide QC3) n1)
      have QR4 : Hid (w11.heap[W.heap.size + 1]? = some (.cells #[.string ⟨#[]⟩, .string ⟨#[]⟩, .string ⟨#[]⟩, .int .i64 0, .int .i64 0, .string ⟨#[]⟩, .string ⟨#[]⟩, .string ⟨#[]⟩] 30 (0, 0))) := kept_block hb11 (set_block (unhide QR3) n2)
      have HBW4 : Hid (Below W.heap.size W w11) := HBX4.trans (hb11.mono HBX4.size)
      clear hb11 QJ3 QC3 QR3 HBW3 HBX4 hxC hfC hxJ hfJ qj30 H12
      obtain ⟨hxC, hfC⟩ := block_facts (unhide QC4)
      obtain ⟨hxJ, hfJ⟩ := block_facts (unhide QJ4)
      obtain ⟨hxR, hfR⟩ := block_facts (unhide QR4)
      go_wp2
      refine bodyPost_ret (v := .tuple #[.agg #[.string K1, .string O1, .string N1, .int .i64 ba, .int .i64 u, .string OP, .string ⟨#[0]⟩, .string MN], .bool true]) (by simp [results, Tryz.results32, go_sem, hxR]) rfl ⟨rfl, ?_⟩
      have HB := HBW4
      repeat (first | with_reducible exact unhide HB | with_reducible exact Below.refl _ _ | with_reducible refine bdrew ?_ | (with_reducible refine brow ?_ ?_; (focus (first | omega | (simp; done) | (simp; omega)))) | (with_reducible refine bset ?_ ?_; (focus (first | omega | (simp; done) | (simp; omega)))) | (with_reducible refine balloc ?_ ?_; (focus (first | omega | (simp; done) | (simp; omega)))) | (with_reducible refine bvia (unhide HB1) ?_ ?_; (focus (first | omega | (simp; done) | (simp; omega)))) | (with_reducible refine bvia (unhide HB2) ?_ ?_; (focus (first | omega | (simp; done) | (simp; omega)))) | (with_reducible refine bvia (unhide HB3) ?_ ?_; (focus (first | omega | (simp; done) | (simp; omega)))) | (with_reducible refine bvia (unhide HB4) ?_ ?_; (focus (first | omega | (simp; done) | (simp; omega)))) | (with_reducible refine bvia (unhide HB5) ?_ ?_; (focus (first | omega | (simp; done) | (simp; omega)))) | (with_reducible refine bvia (unhide HB6) ?_ ?_; (focus (first | omega | (simp; done) | (simp; omega)))))
set_option maxRecDepth 10000 in
set_option maxHeartbeats 4000000 in
theorem worked_01 (c : Chg) (W : World) (K1 O1 N1 P1 OP Q Q1 A A1 EX MN : ByteArray) (ba u : Nat) (hba : ba ≤ 65534) (hN : N1.size ≤ 96) (hP1 : P1.size = 1) (hOP : ⟨#[1]⟩ ++ P1 ++ N1 = OP) (hEX : ⟨#[1]⟩ ++ Q1 ++ A1 ++ Q ++ A = EX)
    (hd : c.diffed = false) (he : c.shown = true) (hQ : Q.size ≤ 96) (hQ1 : Q1.size = 1) (hA : A.size ≤ 96) (hA1 : A1.size = 1)
    (h1 : ∀ X : World, Calls Tryz.prog 42 #[.string c.key, .int .i64 16] X fun e w' => e = .returned (.string K1) ∧ X = w')
    (h2 : ∀ X : World, Calls Tryz.prog 53 #[.agg #[.int .i64 c.i1, .int .i64 c.o1, .string c.t1, .string c.s1]] X fun e w' => e = .returned (.string O1) ∧ Below X.heap.size X w')
    (h3 : ∀ X : World, Calls Tryz.prog 53 #[.agg #[.int .i64 c.i2, .int .i64 c.o2, .string c.t2, .string c.s2]] X fun e w' => e = .returned (.string N1) ∧ Below X.heap.size X w')
    (h4 : ∀ X : World, Calls Tryz.prog 25 #[.int .i64 c.base, .int .i64 0, .int .i64 65534] X fun e w' => e = .returned (.int .i64 ba) ∧ X = w')
    (h5 : ∀ X : World, Calls Tryz.prog 25 #[.int .i64 c.up, .int .i64 ((ba : Int) + 1), .int .i64 65535] X fun e w' => e = .returned (.int .i64 u) ∧ X = w')
    (h6 : ∀ X : World, Calls Tryz.prog 40 #[.int .i64 N1.size] X fun e w' => e = .returned (.string P1) ∧ Below X.heap.size X w')
    (h8 : ∀ X : World, Calls Tryz.prog 35 #[.string N1, .string c.ask] X fun e w' => e = .returned (.string Q) ∧ X = w')
    (h9 : ∀ X : World, Calls Tryz.prog 36 #[.string N1, .string Q] X fun e w' => e = .returned (.tuple #[.string A, .bool true]) ∧ Below X.heap.size X w')
    (h10 : ∀ X : World, Calls Tryz.prog 40 #[.int .i64 Q.size] X fun e w' => e = .returned (.string Q1) ∧ Below X.heap.size X w')
    (h11 : ∀ X : World, Calls Tryz.prog 40 #[.int .i64 A.size] X fun e w' => e = .returned (.string A1) ∧ Below X.heap.size X w')
    (h12 : ∀ X : World, Calls Tryz.prog 20 #[.agg #[.string K1, .string O1, .string N1, .int .i64 ba, .int .i64 u, .string OP, .string EX, .string ⟨#[]⟩], .int .i64 ba, .int .i64 u] X fun e w' => e = .returned (.string MN) ∧ Below X.heap.size X w') :
    Calls Tryz.prog 32 #[chgV c] W fun e w' => e = .returned (.tuple #[.agg #[.string K1, .string O1, .string N1, .int .i64 ba, .int .i64 u, .string OP, .string EX, .string MN], .bool true]) ∧ Below W.heap.size W w' := by
  have H1 := hide h1
  have H2 := hide h2
  have H3 := hide h3
  have H4 := hide h4
  have H5 := hide h5
  have H6 := hide h6
  have H12 := hide h12
  have HOP := hide hOP
  have HD := hide hd
  have HE := hide he
  clear h1 h2 h3 h4 h5 h6 h12 hd he hOP
  have HEX := hide hEX
  clear hEX
  have H8 := hide h8
  have H9 := hide h9
  have H10 := hide h10
  have H11 := hide h11
  clear h8 h9 h10 h11
  have HBL : Hid (Below W.heap.size W ((W.alloc (.cells (chgC c) 25)).alloc (.cells #[.string ⟨#[]⟩, .string ⟨#[]⟩, .string ⟨#[]⟩, .int .i64 0, .int .i64 0, .string ⟨#[]⟩, .string ⟨#[]⟩, .string ⟨#[]⟩] 30)).drew) := (((Below.refl _ _).alloc (Nat.le_refl _) _).alloc (by simp) _).drew
  have hC := drew_block (first_block W (.cells (chgC c) 25) (.cells #[.string ⟨#[]⟩, .string ⟨#[]⟩, .string ⟨#[]⟩, .int .i64 0, .int .i64 0, .string ⟨#[]⟩, .string ⟨#[]⟩, .string ⟨#[]⟩] 30))
  have hR := drew_block (last_block (W.alloc (.cells (chgC c) 25)) (.cells #[.string ⟨#[]⟩, .string ⟨#[]⟩, .string ⟨#[]⟩, .int .i64 0, .int .i64 0, .string ⟨#[]⟩, .string ⟨#[]⟩, .string ⟨#[]⟩] 30) (n := W.heap.size + 1) (by simp))
  have hsz : W.heap.size + 2 ≤ (((W.alloc (.cells (chgC c) 25)).alloc (.cells #[.string ⟨#[]⟩, .string ⟨#[]⟩, .string ⟨#[]⟩, .int .i64 0, .int .i64 0, .string ⟨#[]⟩, .string ⟨#[]⟩, .string ⟨#[]⟩] 30)).drew).heap.size := by show _ ≤ ((W.alloc _).alloc _).heap.size; simp
  go_enter Tryz.func32, Tryz.ntmps32
  go_wp2_with fail
  refine cut_code (fun a X => ∃ (q : Nat) (x11 x12 x13 x14 x15 x16 x17 x18 x19 x20 : Value), a = ⟨#[chgV c, .pointer (some ⟨W.heap.size, 0, none⟩), .pointer (some ⟨W.heap.size + 1, 0, none⟩), .bool false, .pointer (some ⟨q, 0, none⟩), undef, undef, undef, undef, undef, undef, x11, x12, x13, x14, x15, x16, x17, x18, x19, x20, undef, undef, undef, undef, undef, undef, undef, undef, undef, undef, undef, undef, undef, undef, undef, undef, undef, undef, undef, undef, undef, undef, undef, undef, undef, undef, undef, undef, undef, undef, undef, undef, undef, undef, undef, undef, undef, undef, undef, undef, undef, undef, undef, undef, undef, undef, undef, undef, undef, undef, undef, undef, undef, undef, undef, undef, undef, undef, undef, undef, undef, undef, undef, undef, undef, undef, undef, undef, undef, undef, undef, undef, undef, undef, undef, undef, undef, undef, undef, undef, undef, undef, undef, undef, undef, undef], []⟩ ∧ X.heap[q]? = some (.cells #[.string K1, .string O1, .string N1, .int .i64 0, .int .i64 0, .string ⟨#[]⟩, .string ⟨#[]⟩, .string ⟨#[]⟩] 30 (0, 0)) ∧ X.heap[W.heap.size]? = some (.cells (chgC c) 25 (0, 0)) ∧ X.heap[W.heap.size + 1]? = some (.cells #[.string ⟨#[]⟩, .string ⟨#[]⟩, .string ⟨#[]⟩, .int .i64 0, .int .i64 0, .string ⟨#[]⟩, .string ⟨#[]⟩, .string ⟨#[]⟩] 30 (0, 0)) ∧ W.heap.size + 2 ≤ q ∧ Below W.heap.size W X) ?_ ?_
  · have rule2 : ∀ (X : World) (o : Nat), X.heap[W.heap.size]? = some (.cells (chgC c) 25 (0, 0)) → X.cell? ⟨W.heap.size, o, none⟩ = (chgC c)[o]? := fun X o h => cell_in h o
    go_region_held3 (fun X => X.heap[W.heap.size]? = some (.cells (chgC c) 25 (0, 0))) (repeat (first | with_reducible exact hC | with_reducible exact first_block _ _ _ | with_reducible refine ablk ?_ | with_reducible refine drew_block ?_ | (with_reducible refine sblk ?_ ?_; (focus omega)))) ((first
      | (go_at_call 42; with_reducible refine (unhide H1 _).mono ?_; rintro y wN ⟨rfl, rfl⟩)
      | (go_at_call 53; (first | with_reducible refine (unhide H2 _).mono ?_ | with_reducible refine (unhide H3 _).mono ?_); rintro y wN ⟨rfl, hbN⟩; (first | (have hK := kept_block hbN (last_block _ _ rfl)) | (have hK := kept_block hbN hK) | (have hK := kept_block hbN (drew_block (last_block _ _ rfl)))); (try simp only [World.size_alloc] at hK); have hNx := (block_facts hK).1; have hNf := (block_facts hK).2; have hNl := (Array.getElem?_eq_some_iff.1 hK).1; have hC : wN.heap[W.heap.size]? = some (.cells (chgC c) 25 (0, 0)) := kept_block hbN (by repeat (first | with_reducible exact hC | with_reducible exact first_block _ _ _ | with_reducible refine ablk ?_ | with_reducible refine drew_block ?_)); have hR : wN.heap[W.heap.size + 1]? = some (.cells #[.string ⟨#[]⟩, .string ⟨#[]⟩, .string ⟨#[]⟩, .int .i64 0, .int .i64 0, .string ⟨#[]⟩, .string ⟨#[]⟩, .string ⟨#[]⟩] 30 (0, 0)) := kept_block hbN (by repeat (first | with_reducible exact hR | (with_reducible refine last_block _ _ ?_; (focus (simp; done))) | with_reducible refine ablk ?_ | with_reducible refine drew_block ?_)); have HBL : Hid (Below W.heap.size W wN) := Below.trans (by repeat (first | with_reducible exact unhide HBL | with_reducible exact Below.refl _ _ | with_reducible refine bdrew ?_ | (with_reducible refine balloc ?_ ?_; (focus (first | omega | (simp; done) | (simp; omega)))))) (hbN.mono (by first | omega | (simp; done) | (simp; omega) | (show _ ≤ (World.alloc _ _).heap.size; simp; done) | (show _ ≤ (World.alloc _ _).heap.size; simp; omega))); have hsz : W.heap.size + 2 ≤ wN.heap.size := Nat.le_trans (by first | exact hsz | (simp; done) | (simp; omega) | (show _ ≤ (World.alloc _ _).heap.size; simp; done) | (show _ ≤ (World.alloc _ _).heap.size; simp; omega)) hbN.size)))
    all_goals
      have HBW := HBL
      refine ⟨rfl, _, _, _, _, _, _, _, _, _, _, _, rfl, ?_, ?_, ?_, ?_, ?_⟩
      · first | (with_reducible exact last_block _ _ rfl) | (with_reducible exact fill8 hK)
      · repeat (first | with_reducible exact hC | with_reducible refine ablk ?_ | with_reducible refine drew_block ?_ | (with_reducible refine sblk ?_ ?_; (focus (first | omega | (simp; done) | (simp; omega)))))
      · repeat (first | with_reducible exact hR | with_reducible refine ablk ?_ | with_reducible refine drew_block ?_ | (with_reducible refine sblk ?_ ?_; (focus (first | omega | (simp; done) | (simp; omega)))))
      · first | omega | (simp; done) | (simp; omega)
      · repeat (first | with_reducible exact unhide HBW | with_reducible refine bdrew ?_ | (with_reducible refine bset ?_ ?_; (focus (first | omega | (simp; done) | (simp; omega)))) | (with_reducible refine balloc ?_ ?_; (focus (first | omega | (simp; done) | (simp; omega)))))
  · rintro _ W4 ⟨q, x11, x12, x13, x14, x15, x16, x17, x18, x19, x20, rfl, qJ, qC, qR, hq, hbW⟩
    have hql := (Array.getElem?_eq_some_iff.1 qJ).1
    have n1 : ¬ W.heap.size = q := by omega
    have n2 : ¬ W.heap.size + 1 = q := by omega
    obtain ⟨hxC, hfC⟩ := block_facts qC
    obtain ⟨hxJ, hfJ⟩ := block_facts qJ
    have QJ := hide qJ
    have QC := hide qC
    have QR := hide qR
    have HBW := hide hbW
    clear qJ qC qR hbW HBL hC hR hsz H1 H2 H3
    go_wp2_with fail
    refine (unhide H4 _).mono ?_
    rintro e _ ⟨rfl, rfl⟩
    go_wp2_with fail
    refine (unhide H5 _).mono ?_
    rintro e _ ⟨rfl, rfl⟩
    go_wp2_with fail
    have QJ2 : Hid (((W4.setCell ⟨q, 3, none⟩ (.int .i64 ba)).setCell ⟨q, 4, none⟩ (.int .i64 u)).heap[q]? = some (.cells #[.string K1, .string O1, .string N1, .int .i64 ba, .int .i64 u, .string ⟨#[]⟩, .string ⟨#[]⟩, .string ⟨#[]⟩] 30 (0, 0))) := (setCell_in (setCell_in (unhide QJ) 3 _) 4 _).trans rfl
    have QC2 : Hid (((W4.setCell ⟨q, 3, none⟩ (.int .i64 ba)).setCell ⟨q, 4, none⟩ (.int .i64 u)).heap[W.heap.size]? = some (.cells (chgC c) 25 (0, 0))) := set_block (set_block (unhide QC) (by omega)) (by omega)
    have QR2 : Hid (((W4.setCell ⟨q, 3, none⟩ (.int .i64 ba)).setCell ⟨q, 4, none⟩ (.int .i64 u)).heap[W.heap.size + 1]? = some (.cells #[.string ⟨#[]⟩, .string ⟨#[]⟩, .string ⟨#[]⟩, .int .i64 0, .int .i64 0, .string ⟨#[]⟩, .string ⟨#[]⟩, .string ⟨#[]⟩] 30 (0, 0))) := set_block (set_block (unhide QR) (by omega)) (by omega)
    have HBW2 : Hid (Below W.heap.size W ((W4.setCell ⟨q, 3, none⟩ (.int .i64 ba)).setCell ⟨q, 4, none⟩ (.int .i64 u))) := bset (by omega) (bset (by omega) (unhide HBW))
    have hql2 : q < ((W4.setCell ⟨q, 3, none⟩ (.int .i64 ba)).setCell ⟨q, 4, none⟩ (.int .i64 u)).heap.size := (Array.getElem?_eq_some_iff.1 (unhide QJ2)).1
    clear hxC hfC hxJ hfJ QJ QC QR HBW H4 H5 hql
    generalize ((W4.setCell ⟨q, 3, none⟩ (.int .i64 ba)).setCell ⟨q, 4, none⟩ (.int .i64 u)) = X1 at *
    have p1 : ¬ 9223372036854775807 < 1 + 1 + N1.size := by omega
    have p2 : ¬ 9223372036854775807 < 2 + N1.size := by omega
    have hc2 : X1.cell? ⟨q, 2, none⟩ = some (.string N1) := cell_in (unhide QJ2) 2
    obtain ⟨hxJ, hfJ⟩ := block_facts (unhide QJ2)
    clear hxJ
    go_region_held3 (fun X => X.cell? ⟨q, 2, none⟩ = some (.string N1)) (first | assumption | (with_reducible exact hc2) | (with_reducible exact drew_cell hc2) | exact (cell_in (setCell_in hJ5 5 _) 2).trans rfl) ((go_at_call 40; with_reducible refine (unhide H6 _).mono ?_; rintro y w5 ⟨rfl, hb5⟩; have hJ5 : w5.heap[q]? = some (.cells #[.string K1, .string O1, .string N1, .int .i64 ba, .int .i64 u, .string ⟨#[]⟩, .string ⟨#[]⟩, .string ⟨#[]⟩] 30 (0, 0)) := kept_block hb5 (by repeat (first | with_reducible exact unhide QJ2 | with_reducible refine drew_block ?_)); have hc5 : w5.cell? ⟨q, 2, none⟩ = some (.string N1) := (cell_in hJ5 2).trans rfl; have hx5 := (block_facts hJ5).1; have hf5 := (block_facts hJ5).2))
    all_goals
      have QJ3 : Hid ((w5.setCell ⟨q, 5, none⟩ (.string (⟨#[1]⟩ ++ P1 ++ N1))).heap[q]? = some (.cells #[.string K1, .string O1, .string N1, .int .i64 ba, .int .i64 u, .string OP, .string ⟨#[]⟩, .string ⟨#[]⟩] 30 (0, 0))) := (setCell_in hJ5 5 _).trans (by rw [HOP.out]; rfl)
      have HBD : Below W.heap.size W X1.drew := bdrew (unhide HBW2)
      have QC3 : Hid ((w5.setCell ⟨q, 5, none⟩ (.string (⟨#[1]⟩ ++ P1 ++ N1))).heap[W.heap.size]? = some (.cells (chgC c) 25 (0, 0))) := set_block (kept_block hb5 (drew_block (unhide QC2))) n1
      have QR3 : Hid ((w5.setCell ⟨q, 5, none⟩ (.string (⟨#[1]⟩ ++ P1 ++ N1))).heap[W.heap.size + 1]? = some (.cells #[.string ⟨#[]⟩, .string ⟨#[]⟩, .string ⟨#[]⟩, .int .i64 0, .int .i64 0, .string ⟨#[]⟩, .string ⟨#[]⟩, .string ⟨#[]⟩] 30 (0, 0))) := set_block (kept_block hb5 (drew_block (unhide QR2))) n2
      have HBW3 : Hid (Below W.heap.size W (w5.setCell ⟨q, 5, none⟩ (.string (⟨#[1]⟩ ++ P1 ++ N1)))) := bset (by omega) (HBD.trans (hb5.mono HBD.size))
      clear hJ5 hc5 hx5 hf5 hb5 HBD QJ2 QC2 QR2 HBW2 hc2 hfJ hql2 H6
      try clear hHeld
      rw [HOP.out] at QJ3 QC3 QR3 HBW3 ⊢
      generalize (w5.setCell ⟨q, 5, none⟩ (.string OP)) = X2 at *
      clear HOP p1 p2
      obtain ⟨hxC, hfC⟩ := block_facts (unhide QC3)
      obtain ⟨hxJ, hfJ⟩ := block_facts (unhide QJ3)
      have hql3 := (Array.getElem?_eq_some_iff.1 (unhide QJ3)).1
      have hd := HD.out
      have he := HE.out
      clear HD HE
      go_wp2_with fail
      clear hql3
      with_reducible refine (unhide H8 _).mono ?_
      rintro e _ ⟨rfl, rfl⟩
      have k1 : ¬ 9223372036854775807 < 1 + 1 + 1 + Q.size := by omega
      have k2 : ¬ 9223372036854775807 < 1 + 1 + 1 + Q.size + A.size := by omega
      have k3 : ¬ 9223372036854775807 < 3 + Q.size := by omega
      have k4 : ¬ 9223372036854775807 < 3 + Q.size + A.size := by omega
      go_wp2_with fail
      with_reducible refine (unhide H9 _).mono ?_
      rintro e w8 ⟨rfl, hb8⟩
      have qj30 : (X2.setCell ⟨q, 6, none⟩ (.string ⟨#[0]⟩)).heap[q]? = some (.cells #[.string K1, .string O1, .string N1, .int .i64 ba, .int .i64 u, .string OP, .string ⟨#[0]⟩, .string ⟨#[]⟩] 30 (0, 0)) := (setCell_in (unhide QJ3) 6 _).trans rfl
      have HBX4 : Below W.heap.size W (X2.setCell ⟨q, 6, none⟩ (.string ⟨#[0]⟩)) := (bset (by omega) (unhide HBW3))
      have QJ4 : Hid (w8.heap[q]? = some (.cells #[.string K1, .string O1, .string N1, .int .i64 ba, .int .i64 u, .string OP, .string ⟨#[0]⟩, .string ⟨#[]⟩] 30 (0, 0))) := kept_block hb8 qj30
      have QC4 : Hid (w8.heap[W.heap.size]? = some (.cells (chgC c) 25 (0, 0))) := kept_block hb8 (set_block (unhide QC3) n1)
      have QR4 : Hid (w8.heap[W.heap.size + 1]? = some (.cells #[.string ⟨#[]⟩, .string ⟨#[]⟩, .string ⟨#[]⟩, .int .i64 0, .int .i64 0, .string ⟨#[]⟩, .string ⟨#[]⟩, .string ⟨#[]⟩] 30 (0, 0))) := kept_block hb8 (set_block (unhide QR3) n2)
      have HBW4 : Hid (Below W.heap.size W w8) := HBX4.trans (hb8.mono HBX4.size)
      clear hb8 QJ3 QC3 QR3 HBW3 HBX4 hxC hfC hxJ hfJ qj30 H9
      obtain ⟨hxC, hfC⟩ := block_facts (unhide QC4)
      obtain ⟨hxJ, hfJ⟩ := block_facts (unhide QJ4)
      go_wp2_with fail
      with_reducible refine (unhide H10 _).mono ?_
      rintro e w9 ⟨rfl, hb9⟩
      have HBX5 : Below W.heap.size W w8 := (unhide HBW4)
      have QJ5 : Hid (w9.heap[q]? = some (.cells #[.string K1, .string O1, .string N1, .int .i64 ba, .int .i64 u, .string OP, .string ⟨#[0]⟩, .string ⟨#[]⟩] 30 (0, 0))) := kept_block hb9 (unhide QJ4)
      have QC5 : Hid (w9.heap[W.heap.size]? = some (.cells (chgC c) 25 (0, 0))) := kept_block hb9 (unhide QC4)
      have QR5 : Hid (w9.heap[W.heap.size + 1]? = some (.cells #[.string ⟨#[]⟩, .string ⟨#[]⟩, .string ⟨#[]⟩, .int .i64 0, .int .i64 0, .string ⟨#[]⟩, .string ⟨#[]⟩, .string ⟨#[]⟩] 30 (0, 0))) := kept_block hb9 (unhide QR4)
      have HBW5 : Hid (Below W.heap.size W w9) := HBX5.trans (hb9.mono HBX5.size)
      clear hb9 QJ4 QC4 QR4 HBW4 HBX5 hxC hfC hxJ hfJ  H10
      obtain ⟨hxC, hfC⟩ := block_facts (unhide QC5)
      obtain ⟨hxJ, hfJ⟩ := block_facts (unhide QJ5)
      go_wp2_with fail
      with_reducible refine (unhide H11 _).mono ?_
      rintro e w10 ⟨rfl, hb10⟩
      have HBX6 : Below W.heap.size W w9 := (unhide HBW5)
      have QJ6 : Hid (w10.heap[q]? = some (.cells #[.string K1, .string O1, .string N1, .int .i64 ba, .int .i64 u, .string OP, .string ⟨#[0]⟩, .string ⟨#[]⟩] 30 (0, 0))) := kept_block hb10 (unhide QJ5)
      have QC6 : Hid (w10.heap[W.heap.size]? = some (.cells (chgC c) 25 (0, 0))) := kept_block hb10 (unhide QC5)
      have QR6 : Hid (w10.heap[W.heap.size + 1]? = some (.cells #[.string ⟨#[]⟩, .string ⟨#[]⟩, .string ⟨#[]⟩, .int .i64 0, .int .i64 0, .string ⟨#[]⟩, .string ⟨#[]⟩, .string ⟨#[]⟩] 30 (0, 0))) := kept_block hb10 (unhide QR5)
      have HBW6 : Hid (Below W.heap.size W w10) := HBX6.trans (hb10.mono HBX6.size)
      clear hb10 QJ5 QC5 QR5 HBW5 HBX6 hxC hfC hxJ hfJ  H11
      obtain ⟨hxC, hfC⟩ := block_facts (unhide QC6)
      obtain ⟨hxJ, hfJ⟩ := block_facts (unhide QJ6)
      go_wp2_with fail
      rw [HEX.out]
      with_reducible refine (unhide H12 _).mono ?_
      rintro e w11 ⟨rfl, hb11⟩
      have qj60 : (w10.setCell ⟨q, 6, none⟩ (.string EX)).heap[q]? = some (.cells #[.string K1, .string O1, .string N1, .int .i64 ba, .int .i64 u, .string OP, .string EX, .string ⟨#[]⟩] 30 (0, 0)) := (setCell_in (unhide QJ6) 6 _).trans rfl
      have HBX7 : Below W.heap.size W (w10.setCell ⟨q, 6, none⟩ (.string EX)) := (bset (by omega) (unhide HBW6))
      have QJ7 : Hid (w11.heap[q]? = some (.cells #[.string K1, .string O1, .string N1, .int .i64 ba, .int .i64 u, .string OP, .string EX, .string ⟨#[]⟩] 30 (0, 0))) := kept_block hb11 qj60
      have QC7 : Hid (w11.heap[W.heap.size]? = some (.cells (chgC c) 25 (0, 0))) := kept_block hb11 (set_block (unhide QC6) n1)
      have QR7 : Hid (w11.heap[W.heap.size + 1]? = some (.cells #[.string ⟨#[]⟩, .string ⟨#[]⟩, .string ⟨#[]⟩, .int .i64 0, .int .i64 0, .string ⟨#[]⟩, .string ⟨#[]⟩, .string ⟨#[]⟩] 30 (0, 0))) := kept_block hb11 (set_block (unhide QR6) n2)
      have HBW7 : Hid (Below W.heap.size W w11) := HBX7.trans (hb11.mono HBX7.size)
      clear hb11 QJ6 QC6 QR6 HBW6 HBX7 hxC hfC hxJ hfJ qj60 H12
      obtain ⟨hxC, hfC⟩ := block_facts (unhide QC7)
      obtain ⟨hxJ, hfJ⟩ := block_facts (unhide QJ7)
      obtain ⟨hxR, hfR⟩ := block_facts (unhide QR7)
      go_wp2
      refine bodyPost_ret (v := .tuple #[.agg #[.string K1, .string O1, .string N1, .int .i64 ba, .int .i64 u, .string OP, .string EX, .string MN], .bool true]) (by simp [results, Tryz.results32, go_sem, hxR]) rfl ⟨rfl, ?_⟩
      have HB := HBW7
      repeat (first | with_reducible exact unhide HB | with_reducible exact Below.refl _ _ | with_reducible refine bdrew ?_ | (with_reducible refine brow ?_ ?_; (focus (first | omega | (simp; done) | (simp; omega)))) | (with_reducible refine bset ?_ ?_; (focus (first | omega | (simp; done) | (simp; omega)))) | (with_reducible refine balloc ?_ ?_; (focus (first | omega | (simp; done) | (simp; omega)))) | (with_reducible refine bvia (unhide HB1) ?_ ?_; (focus (first | omega | (simp; done) | (simp; omega)))) | (with_reducible refine bvia (unhide HB2) ?_ ?_; (focus (first | omega | (simp; done) | (simp; omega)))) | (with_reducible refine bvia (unhide HB3) ?_ ?_; (focus (first | omega | (simp; done) | (simp; omega)))) | (with_reducible refine bvia (unhide HB4) ?_ ?_; (focus (first | omega | (simp; done) | (simp; omega)))) | (with_reducible refine bvia (unhide HB5) ?_ ?_; (focus (first | omega | (simp; done) | (simp; omega)))) | (with_reducible refine bvia (unhide HB6) ?_ ?_; (focus (first | omega | (simp; done) | (simp; omega)))))
set_option maxRecDepth 10000 in
set_option maxHeartbeats 4000000 in
theorem worked_10 (c : Chg) (W : World) (K1 O1 N1 P1 OP P MN : ByteArray) (ba u : Nat) (hba : ba ≤ 65534) (hN : N1.size ≤ 96) (hP1 : P1.size = 1) (hOP : ⟨#[1]⟩ ++ P1 ++ N1 = OP)
    (hd : c.diffed = true) (he : c.shown = false) (hp0 : 0 < P.size) (hp1 : P.size ≤ 96)
    (h1 : ∀ X : World, Calls Tryz.prog 42 #[.string c.key, .int .i64 16] X fun e w' => e = .returned (.string K1) ∧ X = w')
    (h2 : ∀ X : World, Calls Tryz.prog 53 #[.agg #[.int .i64 c.i1, .int .i64 c.o1, .string c.t1, .string c.s1]] X fun e w' => e = .returned (.string O1) ∧ Below X.heap.size X w')
    (h3 : ∀ X : World, Calls Tryz.prog 53 #[.agg #[.int .i64 c.i2, .int .i64 c.o2, .string c.t2, .string c.s2]] X fun e w' => e = .returned (.string N1) ∧ Below X.heap.size X w')
    (h4 : ∀ X : World, Calls Tryz.prog 25 #[.int .i64 c.base, .int .i64 0, .int .i64 65534] X fun e w' => e = .returned (.int .i64 ba) ∧ X = w')
    (h5 : ∀ X : World, Calls Tryz.prog 25 #[.int .i64 c.up, .int .i64 ((ba : Int) + 1), .int .i64 65535] X fun e w' => e = .returned (.int .i64 u) ∧ X = w')
    (h6 : ∀ X : World, Calls Tryz.prog 40 #[.int .i64 N1.size] X fun e w' => e = .returned (.string P1) ∧ Below X.heap.size X w')
    (h7 : ∀ X : World, Calls Tryz.prog 54 #[.string O1, .string N1] X fun e w' => e = .returned (.tuple #[.string P, .int .i64 0]) ∧ Below X.heap.size X w')
    (h12 : ∀ X : World, Calls Tryz.prog 20 #[.agg #[.string K1, .string O1, .string N1, .int .i64 ba, .int .i64 u, .string P, .string ⟨#[0]⟩, .string ⟨#[]⟩], .int .i64 ba, .int .i64 u] X fun e w' => e = .returned (.string MN) ∧ Below X.heap.size X w') :
    Calls Tryz.prog 32 #[chgV c] W fun e w' => e = .returned (.tuple #[.agg #[.string K1, .string O1, .string N1, .int .i64 ba, .int .i64 u, .string P, .string ⟨#[0]⟩, .string MN], .bool true]) ∧ Below W.heap.size W w' := by
  have H1 := hide h1
  have H2 := hide h2
  have H3 := hide h3
  have H4 := hide h4
  have H5 := hide h5
  have H6 := hide h6
  have H12 := hide h12
  have HOP := hide hOP
  have HD := hide hd
  have HE := hide he
  clear h1 h2 h3 h4 h5 h6 h12 hd he hOP
  have H7 := hide h7
  clear h7
  have HBL : Hid (Below W.heap.size W ((W.alloc (.cells (chgC c) 25)).alloc (.cells #[.string ⟨#[]⟩, .string ⟨#[]⟩, .string ⟨#[]⟩, .int .i64 0, .int .i64 0, .string ⟨#[]⟩, .string ⟨#[]⟩, .string ⟨#[]⟩] 30)).drew) := (((Below.refl _ _).alloc (Nat.le_refl _) _).alloc (by simp) _).drew
  have hC := drew_block (first_block W (.cells (chgC c) 25) (.cells #[.string ⟨#[]⟩, .string ⟨#[]⟩, .string ⟨#[]⟩, .int .i64 0, .int .i64 0, .string ⟨#[]⟩, .string ⟨#[]⟩, .string ⟨#[]⟩] 30))
  have hR := drew_block (last_block (W.alloc (.cells (chgC c) 25)) (.cells #[.string ⟨#[]⟩, .string ⟨#[]⟩, .string ⟨#[]⟩, .int .i64 0, .int .i64 0, .string ⟨#[]⟩, .string ⟨#[]⟩, .string ⟨#[]⟩] 30) (n := W.heap.size + 1) (by simp))
  have hsz : W.heap.size + 2 ≤ (((W.alloc (.cells (chgC c) 25)).alloc (.cells #[.string ⟨#[]⟩, .string ⟨#[]⟩, .string ⟨#[]⟩, .int .i64 0, .int .i64 0, .string ⟨#[]⟩, .string ⟨#[]⟩, .string ⟨#[]⟩] 30)).drew).heap.size := by show _ ≤ ((W.alloc _).alloc _).heap.size; simp
  go_enter Tryz.func32, Tryz.ntmps32
  go_wp2_with fail
  refine cut_code (fun a X => ∃ (q : Nat) (x11 x12 x13 x14 x15 x16 x17 x18 x19 x20 : Value), a = ⟨#[chgV c, .pointer (some ⟨W.heap.size, 0, none⟩), .pointer (some ⟨W.heap.size + 1, 0, none⟩), .bool false, .pointer (some ⟨q, 0, none⟩), undef, undef, undef, undef, undef, undef, x11, x12, x13, x14, x15, x16, x17, x18, x19, x20, undef, undef, undef, undef, undef, undef, undef, undef, undef, undef, undef, undef, undef, undef, undef, undef, undef, undef, undef, undef, undef, undef, undef, undef, undef, undef, undef, undef, undef, undef, undef, undef, undef, undef, undef, undef, undef, undef, undef, undef, undef, undef, undef, undef, undef, undef, undef, undef, undef, undef, undef, undef, undef, undef, undef, undef, undef, undef, undef, undef, undef, undef, undef, undef, undef, undef, undef, undef, undef, undef, undef, undef, undef, undef, undef, undef, undef, undef, undef, undef, undef, undef, undef, undef, undef, undef], []⟩ ∧ X.heap[q]? = some (.cells #[.string K1, .string O1, .string N1, .int .i64 0, .int .i64 0, .string ⟨#[]⟩, .string ⟨#[]⟩, .string ⟨#[]⟩] 30 (0, 0)) ∧ X.heap[W.heap.size]? = some (.cells (chgC c) 25 (0, 0)) ∧ X.heap[W.heap.size + 1]? = some (.cells #[.string ⟨#[]⟩, .string ⟨#[]⟩, .string ⟨#[]⟩, .int .i64 0, .int .i64 0, .string ⟨#[]⟩, .string ⟨#[]⟩, .string ⟨#[]⟩] 30 (0, 0)) ∧ W.heap.size + 2 ≤ q ∧ Below W.heap.size W X) ?_ ?_
  · have rule2 : ∀ (X : World) (o : Nat), X.heap[W.heap.size]? = some (.cells (chgC c) 25 (0, 0)) → X.cell? ⟨W.heap.size, o, none⟩ = (chgC c)[o]? := fun X o h => cell_in h o
    go_region_held3 (fun X => X.heap[W.heap.size]? = some (.cells (chgC c) 25 (0, 0))) (repeat (first | with_reducible exact hC | with_reducible exact first_block _ _ _ | with_reducible refine ablk ?_ | with_reducible refine drew_block ?_ | (with_reducible refine sblk ?_ ?_; (focus omega)))) ((first
      | (go_at_call 42; with_reducible refine (unhide H1 _).mono ?_; rintro y wN ⟨rfl, rfl⟩)
      | (go_at_call 53; (first | with_reducible refine (unhide H2 _).mono ?_ | with_reducible refine (unhide H3 _).mono ?_); rintro y wN ⟨rfl, hbN⟩; (first | (have hK := kept_block hbN (last_block _ _ rfl)) | (have hK := kept_block hbN hK) | (have hK := kept_block hbN (drew_block (last_block _ _ rfl)))); (try simp only [World.size_alloc] at hK); have hNx := (block_facts hK).1; have hNf := (block_facts hK).2; have hNl := (Array.getElem?_eq_some_iff.1 hK).1; have hC : wN.heap[W.heap.size]? = some (.cells (chgC c) 25 (0, 0)) := kept_block hbN (by repeat (first | with_reducible exact hC | with_reducible exact first_block _ _ _ | with_reducible refine ablk ?_ | with_reducible refine drew_block ?_)); have hR : wN.heap[W.heap.size + 1]? = some (.cells #[.string ⟨#[]⟩, .string ⟨#[]⟩, .string ⟨#[]⟩, .int .i64 0, .int .i64 0, .string ⟨#[]⟩, .string ⟨#[]⟩, .string ⟨#[]⟩] 30 (0, 0)) := kept_block hbN (by repeat (first | with_reducible exact hR | (with_reducible refine last_block _ _ ?_; (focus (simp; done))) | with_reducible refine ablk ?_ | with_reducible refine drew_block ?_)); have HBL : Hid (Below W.heap.size W wN) := Below.trans (by repeat (first | with_reducible exact unhide HBL | with_reducible exact Below.refl _ _ | with_reducible refine bdrew ?_ | (with_reducible refine balloc ?_ ?_; (focus (first | omega | (simp; done) | (simp; omega)))))) (hbN.mono (by first | omega | (simp; done) | (simp; omega) | (show _ ≤ (World.alloc _ _).heap.size; simp; done) | (show _ ≤ (World.alloc _ _).heap.size; simp; omega))); have hsz : W.heap.size + 2 ≤ wN.heap.size := Nat.le_trans (by first | exact hsz | (simp; done) | (simp; omega) | (show _ ≤ (World.alloc _ _).heap.size; simp; done) | (show _ ≤ (World.alloc _ _).heap.size; simp; omega)) hbN.size)))
    all_goals
      have HBW := HBL
      refine ⟨rfl, _, _, _, _, _, _, _, _, _, _, _, rfl, ?_, ?_, ?_, ?_, ?_⟩
      · first | (with_reducible exact last_block _ _ rfl) | (with_reducible exact fill8 hK)
      · repeat (first | with_reducible exact hC | with_reducible refine ablk ?_ | with_reducible refine drew_block ?_ | (with_reducible refine sblk ?_ ?_; (focus (first | omega | (simp; done) | (simp; omega)))))
      · repeat (first | with_reducible exact hR | with_reducible refine ablk ?_ | with_reducible refine drew_block ?_ | (with_reducible refine sblk ?_ ?_; (focus (first | omega | (simp; done) | (simp; omega)))))
      · first | omega | (simp; done) | (simp; omega)
      · repeat (first | with_reducible exact unhide HBW | with_reducible refine bdrew ?_ | (with_reducible refine bset ?_ ?_; (focus (first | omega | (simp; done) | (simp; omega)))) | (with_reducible refine balloc ?_ ?_; (focus (first | omega | (simp; done) | (simp; omega)))))
  · rintro _ W4 ⟨q, x11, x12, x13, x14, x15, x16, x17, x18, x19, x20, rfl, qJ, qC, qR, hq, hbW⟩
    have hql := (Array.getElem?_eq_some_iff.1 qJ).1
    have n1 : ¬ W.heap.size = q := by omega
    have n2 : ¬ W.heap.size + 1 = q := by omega
    obtain ⟨hxC, hfC⟩ := block_facts qC
    obtain ⟨hxJ, hfJ⟩ := block_facts qJ
    have QJ := hide qJ
    have QC := hide qC
    have QR := hide qR
    have HBW := hide hbW
    clear qJ qC qR hbW HBL hC hR hsz H1 H2 H3
    go_wp2_with fail
    refine (unhide H4 _).mono ?_
    rintro e _ ⟨rfl, rfl⟩
    go_wp2_with fail
    refine (unhide H5 _).mono ?_
    rintro e _ ⟨rfl, rfl⟩
    go_wp2_with fail
    have QJ2 : Hid (((W4.setCell ⟨q, 3, none⟩ (.int .i64 ba)).setCell ⟨q, 4, none⟩ (.int .i64 u)).heap[q]? = some (.cells #[.string K1, .string O1, .string N1, .int .i64 ba, .int .i64 u, .string ⟨#[]⟩, .string ⟨#[]⟩, .string ⟨#[]⟩] 30 (0, 0))) := (setCell_in (setCell_in (unhide QJ) 3 _) 4 _).trans rfl
    have QC2 : Hid (((W4.setCell ⟨q, 3, none⟩ (.int .i64 ba)).setCell ⟨q, 4, none⟩ (.int .i64 u)).heap[W.heap.size]? = some (.cells (chgC c) 25 (0, 0))) := set_block (set_block (unhide QC) (by omega)) (by omega)
    have QR2 : Hid (((W4.setCell ⟨q, 3, none⟩ (.int .i64 ba)).setCell ⟨q, 4, none⟩ (.int .i64 u)).heap[W.heap.size + 1]? = some (.cells #[.string ⟨#[]⟩, .string ⟨#[]⟩, .string ⟨#[]⟩, .int .i64 0, .int .i64 0, .string ⟨#[]⟩, .string ⟨#[]⟩, .string ⟨#[]⟩] 30 (0, 0))) := set_block (set_block (unhide QR) (by omega)) (by omega)
    have HBW2 : Hid (Below W.heap.size W ((W4.setCell ⟨q, 3, none⟩ (.int .i64 ba)).setCell ⟨q, 4, none⟩ (.int .i64 u))) := bset (by omega) (bset (by omega) (unhide HBW))
    have hql2 : q < ((W4.setCell ⟨q, 3, none⟩ (.int .i64 ba)).setCell ⟨q, 4, none⟩ (.int .i64 u)).heap.size := (Array.getElem?_eq_some_iff.1 (unhide QJ2)).1
    clear hxC hfC hxJ hfJ QJ QC QR HBW H4 H5 hql
    generalize ((W4.setCell ⟨q, 3, none⟩ (.int .i64 ba)).setCell ⟨q, 4, none⟩ (.int .i64 u)) = X1 at *
    have p1 : ¬ 9223372036854775807 < 1 + 1 + N1.size := by omega
    have p2 : ¬ 9223372036854775807 < 2 + N1.size := by omega
    have hc2 : X1.cell? ⟨q, 2, none⟩ = some (.string N1) := cell_in (unhide QJ2) 2
    obtain ⟨hxJ, hfJ⟩ := block_facts (unhide QJ2)
    clear hxJ
    go_region_held3 (fun X => X.cell? ⟨q, 2, none⟩ = some (.string N1)) (first | assumption | (with_reducible exact hc2) | (with_reducible exact drew_cell hc2) | exact (cell_in (setCell_in hJ5 5 _) 2).trans rfl) ((go_at_call 40; with_reducible refine (unhide H6 _).mono ?_; rintro y w5 ⟨rfl, hb5⟩; have hJ5 : w5.heap[q]? = some (.cells #[.string K1, .string O1, .string N1, .int .i64 ba, .int .i64 u, .string ⟨#[]⟩, .string ⟨#[]⟩, .string ⟨#[]⟩] 30 (0, 0)) := kept_block hb5 (by repeat (first | with_reducible exact unhide QJ2 | with_reducible refine drew_block ?_)); have hc5 : w5.cell? ⟨q, 2, none⟩ = some (.string N1) := (cell_in hJ5 2).trans rfl; have hx5 := (block_facts hJ5).1; have hf5 := (block_facts hJ5).2))
    all_goals
      have QJ3 : Hid ((w5.setCell ⟨q, 5, none⟩ (.string (⟨#[1]⟩ ++ P1 ++ N1))).heap[q]? = some (.cells #[.string K1, .string O1, .string N1, .int .i64 ba, .int .i64 u, .string OP, .string ⟨#[]⟩, .string ⟨#[]⟩] 30 (0, 0))) := (setCell_in hJ5 5 _).trans (by rw [HOP.out]; rfl)
      have HBD : Below W.heap.size W X1.drew := bdrew (unhide HBW2)
      have QC3 : Hid ((w5.setCell ⟨q, 5, none⟩ (.string (⟨#[1]⟩ ++ P1 ++ N1))).heap[W.heap.size]? = some (.cells (chgC c) 25 (0, 0))) := set_block (kept_block hb5 (drew_block (unhide QC2))) n1
      have QR3 : Hid ((w5.setCell ⟨q, 5, none⟩ (.string (⟨#[1]⟩ ++ P1 ++ N1))).heap[W.heap.size + 1]? = some (.cells #[.string ⟨#[]⟩, .string ⟨#[]⟩, .string ⟨#[]⟩, .int .i64 0, .int .i64 0, .string ⟨#[]⟩, .string ⟨#[]⟩, .string ⟨#[]⟩] 30 (0, 0))) := set_block (kept_block hb5 (drew_block (unhide QR2))) n2
      have HBW3 : Hid (Below W.heap.size W (w5.setCell ⟨q, 5, none⟩ (.string (⟨#[1]⟩ ++ P1 ++ N1)))) := bset (by omega) (HBD.trans (hb5.mono HBD.size))
      clear hJ5 hc5 hx5 hf5 hb5 HBD QJ2 QC2 QR2 HBW2 hc2 hfJ hql2 H6
      try clear hHeld
      rw [HOP.out] at QJ3 QC3 QR3 HBW3 ⊢
      generalize (w5.setCell ⟨q, 5, none⟩ (.string OP)) = X2 at *
      clear HOP p1 p2
      obtain ⟨hxC, hfC⟩ := block_facts (unhide QC3)
      obtain ⟨hxJ, hfJ⟩ := block_facts (unhide QJ3)
      have hql3 := (Array.getElem?_eq_some_iff.1 (unhide QJ3)).1
      have hd := HD.out
      have he := HE.out
      clear HD HE
      go_wp2_with fail
      clear hql3
      with_reducible refine (unhide H7 _).mono ?_
      rintro e w6 ⟨rfl, hb6⟩
      have HBX4 : Below W.heap.size W X2 := (unhide HBW3)
      have QJ4 : Hid (w6.heap[q]? = some (.cells #[.string K1, .string O1, .string N1, .int .i64 ba, .int .i64 u, .string OP, .string ⟨#[]⟩, .string ⟨#[]⟩] 30 (0, 0))) := kept_block hb6 (unhide QJ3)
      have QC4 : Hid (w6.heap[W.heap.size]? = some (.cells (chgC c) 25 (0, 0))) := kept_block hb6 (unhide QC3)
      have QR4 : Hid (w6.heap[W.heap.size + 1]? = some (.cells #[.string ⟨#[]⟩, .string ⟨#[]⟩, .string ⟨#[]⟩, .int .i64 0, .int .i64 0, .string ⟨#[]⟩, .string ⟨#[]⟩, .string ⟨#[]⟩] 30 (0, 0))) := kept_block hb6 (unhide QR3)
      have HBW4 : Hid (Below W.heap.size W w6) := HBX4.trans (hb6.mono HBX4.size)
      clear hb6 QJ3 QC3 QR3 HBW3 HBX4 hxC hfC hxJ hfJ  H7
      obtain ⟨hxC, hfC⟩ := block_facts (unhide QC4)
      obtain ⟨hxJ, hfJ⟩ := block_facts (unhide QJ4)
      go_wp2_with fail
      with_reducible refine (unhide H12 _).mono ?_
      rintro e w11 ⟨rfl, hb11⟩
      have qj40 : (w6.setCell ⟨q, 5, none⟩ (.string P)).heap[q]? = some (.cells #[.string K1, .string O1, .string N1, .int .i64 ba, .int .i64 u, .string P, .string ⟨#[]⟩, .string ⟨#[]⟩] 30 (0, 0)) := (setCell_in (unhide QJ4) 5 _).trans rfl
      have qj41 : ((w6.setCell ⟨q, 5, none⟩ (.string P)).setCell ⟨q, 6, none⟩ (.string ⟨#[0]⟩)).heap[q]? = some (.cells #[.string K1, .string O1, .string N1, .int .i64 ba, .int .i64 u, .string P, .string ⟨#[0]⟩, .string ⟨#[]⟩] 30 (0, 0)) := (setCell_in qj40 6 _).trans rfl
      have HBX5 : Below W.heap.size W ((w6.setCell ⟨q, 5, none⟩ (.string P)).setCell ⟨q, 6, none⟩ (.string ⟨#[0]⟩)) := (bset (by omega) (bset (by omega) (unhide HBW4)))
      have QJ5 : Hid (w11.heap[q]? = some (.cells #[.string K1, .string O1, .string N1, .int .i64 ba, .int .i64 u, .string P, .string ⟨#[0]⟩, .string ⟨#[]⟩] 30 (0, 0))) := kept_block hb11 qj41
      have QC5 : Hid (w11.heap[W.heap.size]? = some (.cells (chgC c) 25 (0, 0))) := kept_block hb11 (set_block (set_block (unhide QC4) n1) n1)
      have QR5 : Hid (w11.heap[W.heap.size + 1]? = some (.cells #[.string ⟨#[]⟩, .string ⟨#[]⟩, .string ⟨#[]⟩, .int .i64 0, .int .i64 0, .string ⟨#[]⟩, .string ⟨#[]⟩, .string ⟨#[]⟩] 30 (0, 0))) := kept_block hb11 (set_block (set_block (unhide QR4) n2) n2)
      have HBW5 : Hid (Below W.heap.size W w11) := HBX5.trans (hb11.mono HBX5.size)
      clear hb11 QJ4 QC4 QR4 HBW4 HBX5 hxC hfC hxJ hfJ qj40 qj41 H12
      obtain ⟨hxC, hfC⟩ := block_facts (unhide QC5)
      obtain ⟨hxJ, hfJ⟩ := block_facts (unhide QJ5)
      obtain ⟨hxR, hfR⟩ := block_facts (unhide QR5)
      go_wp2
      refine bodyPost_ret (v := .tuple #[.agg #[.string K1, .string O1, .string N1, .int .i64 ba, .int .i64 u, .string P, .string ⟨#[0]⟩, .string MN], .bool true]) (by simp [results, Tryz.results32, go_sem, hxR]) rfl ⟨rfl, ?_⟩
      have HB := HBW5
      repeat (first | with_reducible exact unhide HB | with_reducible exact Below.refl _ _ | with_reducible refine bdrew ?_ | (with_reducible refine brow ?_ ?_; (focus (first | omega | (simp; done) | (simp; omega)))) | (with_reducible refine bset ?_ ?_; (focus (first | omega | (simp; done) | (simp; omega)))) | (with_reducible refine balloc ?_ ?_; (focus (first | omega | (simp; done) | (simp; omega)))) | (with_reducible refine bvia (unhide HB1) ?_ ?_; (focus (first | omega | (simp; done) | (simp; omega)))) | (with_reducible refine bvia (unhide HB2) ?_ ?_; (focus (first | omega | (simp; done) | (simp; omega)))) | (with_reducible refine bvia (unhide HB3) ?_ ?_; (focus (first | omega | (simp; done) | (simp; omega)))) | (with_reducible refine bvia (unhide HB4) ?_ ?_; (focus (first | omega | (simp; done) | (simp; omega)))) | (with_reducible refine bvia (unhide HB5) ?_ ?_; (focus (first | omega | (simp; done) | (simp; omega)))) | (with_reducible refine bvia (unhide HB6) ?_ ?_; (focus (first | omega | (simp; done) | (simp; omega)))))
set_option maxRecDepth 10000 in
set_option maxHeartbeats 4000000 in
theorem worked_11 (c : Chg) (W : World) (K1 O1 N1 P1 OP P Q Q1 A A1 EX MN : ByteArray) (ba u : Nat) (hba : ba ≤ 65534) (hN : N1.size ≤ 96) (hP1 : P1.size = 1) (hOP : ⟨#[1]⟩ ++ P1 ++ N1 = OP) (hEX : ⟨#[1]⟩ ++ Q1 ++ A1 ++ Q ++ A = EX)
    (hd : c.diffed = true) (he : c.shown = true) (hp0 : 0 < P.size) (hp1 : P.size ≤ 96) (hQ : Q.size ≤ 96) (hQ1 : Q1.size = 1) (hA : A.size ≤ 96) (hA1 : A1.size = 1)
    (h1 : ∀ X : World, Calls Tryz.prog 42 #[.string c.key, .int .i64 16] X fun e w' => e = .returned (.string K1) ∧ X = w')
    (h2 : ∀ X : World, Calls Tryz.prog 53 #[.agg #[.int .i64 c.i1, .int .i64 c.o1, .string c.t1, .string c.s1]] X fun e w' => e = .returned (.string O1) ∧ Below X.heap.size X w')
    (h3 : ∀ X : World, Calls Tryz.prog 53 #[.agg #[.int .i64 c.i2, .int .i64 c.o2, .string c.t2, .string c.s2]] X fun e w' => e = .returned (.string N1) ∧ Below X.heap.size X w')
    (h4 : ∀ X : World, Calls Tryz.prog 25 #[.int .i64 c.base, .int .i64 0, .int .i64 65534] X fun e w' => e = .returned (.int .i64 ba) ∧ X = w')
    (h5 : ∀ X : World, Calls Tryz.prog 25 #[.int .i64 c.up, .int .i64 ((ba : Int) + 1), .int .i64 65535] X fun e w' => e = .returned (.int .i64 u) ∧ X = w')
    (h6 : ∀ X : World, Calls Tryz.prog 40 #[.int .i64 N1.size] X fun e w' => e = .returned (.string P1) ∧ Below X.heap.size X w')
    (h7 : ∀ X : World, Calls Tryz.prog 54 #[.string O1, .string N1] X fun e w' => e = .returned (.tuple #[.string P, .int .i64 0]) ∧ Below X.heap.size X w')
    (h8 : ∀ X : World, Calls Tryz.prog 35 #[.string N1, .string c.ask] X fun e w' => e = .returned (.string Q) ∧ X = w')
    (h9 : ∀ X : World, Calls Tryz.prog 36 #[.string N1, .string Q] X fun e w' => e = .returned (.tuple #[.string A, .bool true]) ∧ Below X.heap.size X w')
    (h10 : ∀ X : World, Calls Tryz.prog 40 #[.int .i64 Q.size] X fun e w' => e = .returned (.string Q1) ∧ Below X.heap.size X w')
    (h11 : ∀ X : World, Calls Tryz.prog 40 #[.int .i64 A.size] X fun e w' => e = .returned (.string A1) ∧ Below X.heap.size X w')
    (h12 : ∀ X : World, Calls Tryz.prog 20 #[.agg #[.string K1, .string O1, .string N1, .int .i64 ba, .int .i64 u, .string P, .string EX, .string ⟨#[]⟩], .int .i64 ba, .int .i64 u] X fun e w' => e = .returned (.string MN) ∧ Below X.heap.size X w') :
    Calls Tryz.prog 32 #[chgV c] W fun e w' => e = .returned (.tuple #[.agg #[.string K1, .string O1, .string N1, .int .i64 ba, .int .i64 u, .string P, .string EX, .string MN], .bool true]) ∧ Below W.heap.size W w' := by
  have H1 := hide h1
  have H2 := hide h2
  have H3 := hide h3
  have H4 := hide h4
  have H5 := hide h5
  have H6 := hide h6
  have H12 := hide h12
  have HOP := hide hOP
  have HD := hide hd
  have HE := hide he
  clear h1 h2 h3 h4 h5 h6 h12 hd he hOP
  have H7 := hide h7
  clear h7
  have HEX := hide hEX
  clear hEX
  have H8 := hide h8
  have H9 := hide h9
  have H10 := hide h10
  have H11 := hide h11
  clear h8 h9 h10 h11
  have HBL : Hid (Below W.heap.size W ((W.alloc (.cells (chgC c) 25)).alloc (.cells #[.string ⟨#[]⟩, .string ⟨#[]⟩, .string ⟨#[]⟩, .int .i64 0, .int .i64 0, .string ⟨#[]⟩, .string ⟨#[]⟩, .string ⟨#[]⟩] 30)).drew) := (((Below.refl _ _).alloc (Nat.le_refl _) _).alloc (by simp) _).drew
  have hC := drew_block (first_block W (.cells (chgC c) 25) (.cells #[.string ⟨#[]⟩, .string ⟨#[]⟩, .string ⟨#[]⟩, .int .i64 0, .int .i64 0, .string ⟨#[]⟩, .string ⟨#[]⟩, .string ⟨#[]⟩] 30))
  have hR := drew_block (last_block (W.alloc (.cells (chgC c) 25)) (.cells #[.string ⟨#[]⟩, .string ⟨#[]⟩, .string ⟨#[]⟩, .int .i64 0, .int .i64 0, .string ⟨#[]⟩, .string ⟨#[]⟩, .string ⟨#[]⟩] 30) (n := W.heap.size + 1) (by simp))
  have hsz : W.heap.size + 2 ≤ (((W.alloc (.cells (chgC c) 25)).alloc (.cells #[.string ⟨#[]⟩, .string ⟨#[]⟩, .string ⟨#[]⟩, .int .i64 0, .int .i64 0, .string ⟨#[]⟩, .string ⟨#[]⟩, .string ⟨#[]⟩] 30)).drew).heap.size := by show _ ≤ ((W.alloc _).alloc _).heap.size; simp
  go_enter Tryz.func32, Tryz.ntmps32
  go_wp2_with fail
  refine cut_code (fun a X => ∃ (q : Nat) (x11 x12 x13 x14 x15 x16 x17 x18 x19 x20 : Value), a = ⟨#[chgV c, .pointer (some ⟨W.heap.size, 0, none⟩), .pointer (some ⟨W.heap.size + 1, 0, none⟩), .bool false, .pointer (some ⟨q, 0, none⟩), undef, undef, undef, undef, undef, undef, x11, x12, x13, x14, x15, x16, x17, x18, x19, x20, undef, undef, undef, undef, undef, undef, undef, undef, undef, undef, undef, undef, undef, undef, undef, undef, undef, undef, undef, undef, undef, undef, undef, undef, undef, undef, undef, undef, undef, undef, undef, undef, undef, undef, undef, undef, undef, undef, undef, undef, undef, undef, undef, undef, undef, undef, undef, undef, undef, undef, undef, undef, undef, undef, undef, undef, undef, undef, undef, undef, undef, undef, undef, undef, undef, undef, undef, undef, undef, undef, undef, undef, undef, undef, undef, undef, undef, undef, undef, undef, undef, undef, undef, undef, undef, undef], []⟩ ∧ X.heap[q]? = some (.cells #[.string K1, .string O1, .string N1, .int .i64 0, .int .i64 0, .string ⟨#[]⟩, .string ⟨#[]⟩, .string ⟨#[]⟩] 30 (0, 0)) ∧ X.heap[W.heap.size]? = some (.cells (chgC c) 25 (0, 0)) ∧ X.heap[W.heap.size + 1]? = some (.cells #[.string ⟨#[]⟩, .string ⟨#[]⟩, .string ⟨#[]⟩, .int .i64 0, .int .i64 0, .string ⟨#[]⟩, .string ⟨#[]⟩, .string ⟨#[]⟩] 30 (0, 0)) ∧ W.heap.size + 2 ≤ q ∧ Below W.heap.size W X) ?_ ?_
  · have rule2 : ∀ (X : World) (o : Nat), X.heap[W.heap.size]? = some (.cells (chgC c) 25 (0, 0)) → X.cell? ⟨W.heap.size, o, none⟩ = (chgC c)[o]? := fun X o h => cell_in h o
    go_region_held3 (fun X => X.heap[W.heap.size]? = some (.cells (chgC c) 25 (0, 0))) (repeat (first | with_reducible exact hC | with_reducible exact first_block _ _ _ | with_reducible refine ablk ?_ | with_reducible refine drew_block ?_ | (with_reducible refine sblk ?_ ?_; (focus omega)))) ((first
      | (go_at_call 42; with_reducible refine (unhide H1 _).mono ?_; rintro y wN ⟨rfl, rfl⟩)
      | (go_at_call 53; (first | with_reducible refine (unhide H2 _).mono ?_ | with_reducible refine (unhide H3 _).mono ?_); rintro y wN ⟨rfl, hbN⟩; (first | (have hK := kept_block hbN (last_block _ _ rfl)) | (have hK := kept_block hbN hK) | (have hK := kept_block hbN (drew_block (last_block _ _ rfl)))); (try simp only [World.size_alloc] at hK); have hNx := (block_facts hK).1; have hNf := (block_facts hK).2; have hNl := (Array.getElem?_eq_some_iff.1 hK).1; have hC : wN.heap[W.heap.size]? = some (.cells (chgC c) 25 (0, 0)) := kept_block hbN (by repeat (first | with_reducible exact hC | with_reducible exact first_block _ _ _ | with_reducible refine ablk ?_ | with_reducible refine drew_block ?_)); have hR : wN.heap[W.heap.size + 1]? = some (.cells #[.string ⟨#[]⟩, .string ⟨#[]⟩, .string ⟨#[]⟩, .int .i64 0, .int .i64 0, .string ⟨#[]⟩, .string ⟨#[]⟩, .string ⟨#[]⟩] 30 (0, 0)) := kept_block hbN (by repeat (first | with_reducible exact hR | (with_reducible refine last_block _ _ ?_; (focus (simp; done))) | with_reducible refine ablk ?_ | with_reducible refine drew_block ?_)); have HBL : Hid (Below W.heap.size W wN) := Below.trans (by repeat (first | with_reducible exact unhide HBL | with_reducible exact Below.refl _ _ | with_reducible refine bdrew ?_ | (with_reducible refine balloc ?_ ?_; (focus (first | omega | (simp; done) | (simp; omega)))))) (hbN.mono (by first | omega | (simp; done) | (simp; omega) | (show _ ≤ (World.alloc _ _).heap.size; simp; done) | (show _ ≤ (World.alloc _ _).heap.size; simp; omega))); have hsz : W.heap.size + 2 ≤ wN.heap.size := Nat.le_trans (by first | exact hsz | (simp; done) | (simp; omega) | (show _ ≤ (World.alloc _ _).heap.size; simp; done) | (show _ ≤ (World.alloc _ _).heap.size; simp; omega)) hbN.size)))
    all_goals
      have HBW := HBL
      refine ⟨rfl, _, _, _, _, _, _, _, _, _, _, _, rfl, ?_, ?_, ?_, ?_, ?_⟩
      · first | (with_reducible exact last_block _ _ rfl) | (with_reducible exact fill8 hK)
      · repeat (first | with_reducible exact hC | with_reducible refine ablk ?_ | with_reducible refine drew_block ?_ | (with_reducible refine sblk ?_ ?_; (focus (first | omega | (simp; done) | (simp; omega)))))
      · repeat (first | with_reducible exact hR | with_reducible refine ablk ?_ | with_reducible refine drew_block ?_ | (with_reducible refine sblk ?_ ?_; (focus (first | omega | (simp; done) | (simp; omega)))))
      · first | omega | (simp; done) | (simp; omega)
      · repeat (first | with_reducible exact unhide HBW | with_reducible refine bdrew ?_ | (with_reducible refine bset ?_ ?_; (focus (first | omega | (simp; done) | (simp; omega)))) | (with_reducible refine balloc ?_ ?_; (focus (first | omega | (simp; done) | (simp; omega)))))
  · rintro _ W4 ⟨q, x11, x12, x13, x14, x15, x16, x17, x18, x19, x20, rfl, qJ, qC, qR, hq, hbW⟩
    have hql := (Array.getElem?_eq_some_iff.1 qJ).1
    have n1 : ¬ W.heap.size = q := by omega
    have n2 : ¬ W.heap.size + 1 = q := by omega
    obtain ⟨hxC, hfC⟩ := block_facts qC
    obtain ⟨hxJ, hfJ⟩ := block_facts qJ
    have QJ := hide qJ
    have QC := hide qC
    have QR := hide qR
    have HBW := hide hbW
    clear qJ qC qR hbW HBL hC hR hsz H1 H2 H3
    go_wp2_with fail
    refine (unhide H4 _).mono ?_
    rintro e _ ⟨rfl, rfl⟩
    go_wp2_with fail
    refine (unhide H5 _).mono ?_
    rintro e _ ⟨rfl, rfl⟩
    go_wp2_with fail
    have QJ2 : Hid (((W4.setCell ⟨q, 3, none⟩ (.int .i64 ba)).setCell ⟨q, 4, none⟩ (.int .i64 u)).heap[q]? = some (.cells #[.string K1, .string O1, .string N1, .int .i64 ba, .int .i64 u, .string ⟨#[]⟩, .string ⟨#[]⟩, .string ⟨#[]⟩] 30 (0, 0))) := (setCell_in (setCell_in (unhide QJ) 3 _) 4 _).trans rfl
    have QC2 : Hid (((W4.setCell ⟨q, 3, none⟩ (.int .i64 ba)).setCell ⟨q, 4, none⟩ (.int .i64 u)).heap[W.heap.size]? = some (.cells (chgC c) 25 (0, 0))) := set_block (set_block (unhide QC) (by omega)) (by omega)
    have QR2 : Hid (((W4.setCell ⟨q, 3, none⟩ (.int .i64 ba)).setCell ⟨q, 4, none⟩ (.int .i64 u)).heap[W.heap.size + 1]? = some (.cells #[.string ⟨#[]⟩, .string ⟨#[]⟩, .string ⟨#[]⟩, .int .i64 0, .int .i64 0, .string ⟨#[]⟩, .string ⟨#[]⟩, .string ⟨#[]⟩] 30 (0, 0))) := set_block (set_block (unhide QR) (by omega)) (by omega)
    have HBW2 : Hid (Below W.heap.size W ((W4.setCell ⟨q, 3, none⟩ (.int .i64 ba)).setCell ⟨q, 4, none⟩ (.int .i64 u))) := bset (by omega) (bset (by omega) (unhide HBW))
    have hql2 : q < ((W4.setCell ⟨q, 3, none⟩ (.int .i64 ba)).setCell ⟨q, 4, none⟩ (.int .i64 u)).heap.size := (Array.getElem?_eq_some_iff.1 (unhide QJ2)).1
    clear hxC hfC hxJ hfJ QJ QC QR HBW H4 H5 hql
    generalize ((W4.setCell ⟨q, 3, none⟩ (.int .i64 ba)).setCell ⟨q, 4, none⟩ (.int .i64 u)) = X1 at *
    have p1 : ¬ 9223372036854775807 < 1 + 1 + N1.size := by omega
    have p2 : ¬ 9223372036854775807 < 2 + N1.size := by omega
    have hc2 : X1.cell? ⟨q, 2, none⟩ = some (.string N1) := cell_in (unhide QJ2) 2
    obtain ⟨hxJ, hfJ⟩ := block_facts (unhide QJ2)
    clear hxJ
    go_region_held3 (fun X => X.cell? ⟨q, 2, none⟩ = some (.string N1)) (first | assumption | (with_reducible exact hc2) | (with_reducible exact drew_cell hc2) | exact (cell_in (setCell_in hJ5 5 _) 2).trans rfl) ((go_at_call 40; with_reducible refine (unhide H6 _).mono ?_; rintro y w5 ⟨rfl, hb5⟩; have hJ5 : w5.heap[q]? = some (.cells #[.string K1, .string O1, .string N1, .int .i64 ba, .int .i64 u, .string ⟨#[]⟩, .string ⟨#[]⟩, .string ⟨#[]⟩] 30 (0, 0)) := kept_block hb5 (by repeat (first | with_reducible exact unhide QJ2 | with_reducible refine drew_block ?_)); have hc5 : w5.cell? ⟨q, 2, none⟩ = some (.string N1) := (cell_in hJ5 2).trans rfl; have hx5 := (block_facts hJ5).1; have hf5 := (block_facts hJ5).2))
    all_goals
      have QJ3 : Hid ((w5.setCell ⟨q, 5, none⟩ (.string (⟨#[1]⟩ ++ P1 ++ N1))).heap[q]? = some (.cells #[.string K1, .string O1, .string N1, .int .i64 ba, .int .i64 u, .string OP, .string ⟨#[]⟩, .string ⟨#[]⟩] 30 (0, 0))) := (setCell_in hJ5 5 _).trans (by rw [HOP.out]; rfl)
      have HBD : Below W.heap.size W X1.drew := bdrew (unhide HBW2)
      have QC3 : Hid ((w5.setCell ⟨q, 5, none⟩ (.string (⟨#[1]⟩ ++ P1 ++ N1))).heap[W.heap.size]? = some (.cells (chgC c) 25 (0, 0))) := set_block (kept_block hb5 (drew_block (unhide QC2))) n1
      have QR3 : Hid ((w5.setCell ⟨q, 5, none⟩ (.string (⟨#[1]⟩ ++ P1 ++ N1))).heap[W.heap.size + 1]? = some (.cells #[.string ⟨#[]⟩, .string ⟨#[]⟩, .string ⟨#[]⟩, .int .i64 0, .int .i64 0, .string ⟨#[]⟩, .string ⟨#[]⟩, .string ⟨#[]⟩] 30 (0, 0))) := set_block (kept_block hb5 (drew_block (unhide QR2))) n2
      have HBW3 : Hid (Below W.heap.size W (w5.setCell ⟨q, 5, none⟩ (.string (⟨#[1]⟩ ++ P1 ++ N1)))) := bset (by omega) (HBD.trans (hb5.mono HBD.size))
      clear hJ5 hc5 hx5 hf5 hb5 HBD QJ2 QC2 QR2 HBW2 hc2 hfJ hql2 H6
      try clear hHeld
      rw [HOP.out] at QJ3 QC3 QR3 HBW3 ⊢
      generalize (w5.setCell ⟨q, 5, none⟩ (.string OP)) = X2 at *
      clear HOP p1 p2
      obtain ⟨hxC, hfC⟩ := block_facts (unhide QC3)
      obtain ⟨hxJ, hfJ⟩ := block_facts (unhide QJ3)
      have hql3 := (Array.getElem?_eq_some_iff.1 (unhide QJ3)).1
      have hd := HD.out
      have he := HE.out
      clear HD HE
      go_wp2_with fail
      clear hql3
      with_reducible refine (unhide H7 _).mono ?_
      rintro e w6 ⟨rfl, hb6⟩
      have HBX4 : Below W.heap.size W X2 := (unhide HBW3)
      have QJ4 : Hid (w6.heap[q]? = some (.cells #[.string K1, .string O1, .string N1, .int .i64 ba, .int .i64 u, .string OP, .string ⟨#[]⟩, .string ⟨#[]⟩] 30 (0, 0))) := kept_block hb6 (unhide QJ3)
      have QC4 : Hid (w6.heap[W.heap.size]? = some (.cells (chgC c) 25 (0, 0))) := kept_block hb6 (unhide QC3)
      have QR4 : Hid (w6.heap[W.heap.size + 1]? = some (.cells #[.string ⟨#[]⟩, .string ⟨#[]⟩, .string ⟨#[]⟩, .int .i64 0, .int .i64 0, .string ⟨#[]⟩, .string ⟨#[]⟩, .string ⟨#[]⟩] 30 (0, 0))) := kept_block hb6 (unhide QR3)
      have HBW4 : Hid (Below W.heap.size W w6) := HBX4.trans (hb6.mono HBX4.size)
      clear hb6 QJ3 QC3 QR3 HBW3 HBX4 hxC hfC hxJ hfJ  H7
      obtain ⟨hxC, hfC⟩ := block_facts (unhide QC4)
      obtain ⟨hxJ, hfJ⟩ := block_facts (unhide QJ4)
      go_wp2_with fail
      with_reducible refine (unhide H8 _).mono ?_
      rintro e _ ⟨rfl, rfl⟩
      have k1 : ¬ 9223372036854775807 < 1 + 1 + 1 + Q.size := by omega
      have k2 : ¬ 9223372036854775807 < 1 + 1 + 1 + Q.size + A.size := by omega
      have k3 : ¬ 9223372036854775807 < 3 + Q.size := by omega
      have k4 : ¬ 9223372036854775807 < 3 + Q.size + A.size := by omega
      go_wp2_with fail
      with_reducible refine (unhide H9 _).mono ?_
      rintro e w8 ⟨rfl, hb8⟩
      have qj40 : (w6.setCell ⟨q, 5, none⟩ (.string P)).heap[q]? = some (.cells #[.string K1, .string O1, .string N1, .int .i64 ba, .int .i64 u, .string P, .string ⟨#[]⟩, .string ⟨#[]⟩] 30 (0, 0)) := (setCell_in (unhide QJ4) 5 _).trans rfl
      have qj41 : ((w6.setCell ⟨q, 5, none⟩ (.string P)).setCell ⟨q, 6, none⟩ (.string ⟨#[0]⟩)).heap[q]? = some (.cells #[.string K1, .string O1, .string N1, .int .i64 ba, .int .i64 u, .string P, .string ⟨#[0]⟩, .string ⟨#[]⟩] 30 (0, 0)) := (setCell_in qj40 6 _).trans rfl
      have HBX5 : Below W.heap.size W ((w6.setCell ⟨q, 5, none⟩ (.string P)).setCell ⟨q, 6, none⟩ (.string ⟨#[0]⟩)) := (bset (by omega) (bset (by omega) (unhide HBW4)))
      have QJ5 : Hid (w8.heap[q]? = some (.cells #[.string K1, .string O1, .string N1, .int .i64 ba, .int .i64 u, .string P, .string ⟨#[0]⟩, .string ⟨#[]⟩] 30 (0, 0))) := kept_block hb8 qj41
      have QC5 : Hid (w8.heap[W.heap.size]? = some (.cells (chgC c) 25 (0, 0))) := kept_block hb8 (set_block (set_block (unhide QC4) n1) n1)
      have QR5 : Hid (w8.heap[W.heap.size + 1]? = some (.cells #[.string ⟨#[]⟩, .string ⟨#[]⟩, .string ⟨#[]⟩, .int .i64 0, .int .i64 0, .string ⟨#[]⟩, .string ⟨#[]⟩, .string ⟨#[]⟩] 30 (0, 0))) := kept_block hb8 (set_block (set_block (unhide QR4) n2) n2)
      have HBW5 : Hid (Below W.heap.size W w8) := HBX5.trans (hb8.mono HBX5.size)
      clear hb8 QJ4 QC4 QR4 HBW4 HBX5 hxC hfC hxJ hfJ qj40 qj41 H9
      obtain ⟨hxC, hfC⟩ := block_facts (unhide QC5)
      obtain ⟨hxJ, hfJ⟩ := block_facts (unhide QJ5)
      go_wp2_with fail
      with_reducible refine (unhide H10 _).mono ?_
      rintro e w9 ⟨rfl, hb9⟩
      have HBX6 : Below W.heap.size W w8 := (unhide HBW5)
      have QJ6 : Hid (w9.heap[q]? = some (.cells #[.string K1, .string O1, .string N1, .int .i64 ba, .int .i64 u, .string P, .string ⟨#[0]⟩, .string ⟨#[]⟩] 30 (0, 0))) := kept_block hb9 (unhide QJ5)
      have QC6 : Hid (w9.heap[W.heap.size]? = some (.cells (chgC c) 25 (0, 0))) := kept_block hb9 (unhide QC5)
      have QR6 : Hid (w9.heap[W.heap.size + 1]? = some (.cells #[.string ⟨#[]⟩, .string ⟨#[]⟩, .string ⟨#[]⟩, .int .i64 0, .int .i64 0, .string ⟨#[]⟩, .string ⟨#[]⟩, .string ⟨#[]⟩] 30 (0, 0))) := kept_block hb9 (unhide QR5)
      have HBW6 : Hid (Below W.heap.size W w9) := HBX6.trans (hb9.mono HBX6.size)
      clear hb9 QJ5 QC5 QR5 HBW5 HBX6 hxC hfC hxJ hfJ  H10
      obtain ⟨hxC, hfC⟩ := block_facts (unhide QC6)
      obtain ⟨hxJ, hfJ⟩ := block_facts (unhide QJ6)
      go_wp2_with fail
      with_reducible refine (unhide H11 _).mono ?_
      rintro e w10 ⟨rfl, hb10⟩
      have HBX7 : Below W.heap.size W w9 := (unhide HBW6)
      have QJ7 : Hid (w10.heap[q]? = some (.cells #[.string K1, .string O1, .string N1, .int .i64 ba, .int .i64 u, .string P, .string ⟨#[0]⟩, .string ⟨#[]⟩] 30 (0, 0))) := kept_block hb10 (unhide QJ6)
      have QC7 : Hid (w10.heap[W.heap.size]? = some (.cells (chgC c) 25 (0, 0))) := kept_block hb10 (unhide QC6)
      have QR7 : Hid (w10.heap[W.heap.size + 1]? = some (.cells #[.string ⟨#[]⟩, .string ⟨#[]⟩, .string ⟨#[]⟩, .int .i64 0, .int .i64 0, .string ⟨#[]⟩, .string ⟨#[]⟩, .string ⟨#[]⟩] 30 (0, 0))) := kept_block hb10 (unhide QR6)
      have HBW7 : Hid (Below W.heap.size W w10) := HBX7.trans (hb10.mono HBX7.size)
      clear hb10 QJ6 QC6 QR6 HBW6 HBX7 hxC hfC hxJ hfJ  H11
      obtain ⟨hxC, hfC⟩ := block_facts (unhide QC7)
      obtain ⟨hxJ, hfJ⟩ := block_facts (unhide QJ7)
      go_wp2_with fail
      rw [HEX.out]
      with_reducible refine (unhide H12 _).mono ?_
      rintro e w11 ⟨rfl, hb11⟩
      have qj70 : (w10.setCell ⟨q, 6, none⟩ (.string EX)).heap[q]? = some (.cells #[.string K1, .string O1, .string N1, .int .i64 ba, .int .i64 u, .string P, .string EX, .string ⟨#[]⟩] 30 (0, 0)) := (setCell_in (unhide QJ7) 6 _).trans rfl
      have HBX8 : Below W.heap.size W (w10.setCell ⟨q, 6, none⟩ (.string EX)) := (bset (by omega) (unhide HBW7))
      have QJ8 : Hid (w11.heap[q]? = some (.cells #[.string K1, .string O1, .string N1, .int .i64 ba, .int .i64 u, .string P, .string EX, .string ⟨#[]⟩] 30 (0, 0))) := kept_block hb11 qj70
      have QC8 : Hid (w11.heap[W.heap.size]? = some (.cells (chgC c) 25 (0, 0))) := kept_block hb11 (set_block (unhide QC7) n1)
      have QR8 : Hid (w11.heap[W.heap.size + 1]? = some (.cells #[.string ⟨#[]⟩, .string ⟨#[]⟩, .string ⟨#[]⟩, .int .i64 0, .int .i64 0, .string ⟨#[]⟩, .string ⟨#[]⟩, .string ⟨#[]⟩] 30 (0, 0))) := kept_block hb11 (set_block (unhide QR7) n2)
      have HBW8 : Hid (Below W.heap.size W w11) := HBX8.trans (hb11.mono HBX8.size)
      clear hb11 QJ7 QC7 QR7 HBW7 HBX8 hxC hfC hxJ hfJ qj70 H12
      obtain ⟨hxC, hfC⟩ := block_facts (unhide QC8)
      obtain ⟨hxJ, hfJ⟩ := block_facts (unhide QJ8)
      obtain ⟨hxR, hfR⟩ := block_facts (unhide QR8)
      go_wp2
      refine bodyPost_ret (v := .tuple #[.agg #[.string K1, .string O1, .string N1, .int .i64 ba, .int .i64 u, .string P, .string EX, .string MN], .bool true]) (by simp [results, Tryz.results32, go_sem, hxR]) rfl ⟨rfl, ?_⟩
      have HB := HBW8
      repeat (first | with_reducible exact unhide HB | with_reducible exact Below.refl _ _ | with_reducible refine bdrew ?_ | (with_reducible refine brow ?_ ?_; (focus (first | omega | (simp; done) | (simp; omega)))) | (with_reducible refine bset ?_ ?_; (focus (first | omega | (simp; done) | (simp; omega)))) | (with_reducible refine balloc ?_ ?_; (focus (first | omega | (simp; done) | (simp; omega)))) | (with_reducible refine bvia (unhide HB1) ?_ ?_; (focus (first | omega | (simp; done) | (simp; omega)))) | (with_reducible refine bvia (unhide HB2) ?_ ?_; (focus (first | omega | (simp; done) | (simp; omega)))) | (with_reducible refine bvia (unhide HB3) ?_ ?_; (focus (first | omega | (simp; done) | (simp; omega)))) | (with_reducible refine bvia (unhide HB4) ?_ ?_; (focus (first | omega | (simp; done) | (simp; omega)))) | (with_reducible refine bvia (unhide HB5) ?_ ?_; (focus (first | omega | (simp; done) | (simp; omega)))) | (with_reducible refine bvia (unhide HB6) ?_ ?_; (focus (first | omega | (simp; done) | (simp; omega)))))
end Go.Proofs.YtjfmiomopfjecabGreat

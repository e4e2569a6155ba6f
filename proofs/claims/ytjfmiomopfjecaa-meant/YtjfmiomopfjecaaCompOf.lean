/- compile.Of. -/
import Derived.Test.YtjfmiomopfjecaaCompOwn
namespace Go.Proofs.Ytjfmiomopfjecaa
open Go.RowKit

set_option maxRecDepth 20000 in
set_option maxHeartbeats 3200000 in
theorem compileOf_at (s : ByteArray) (n m c : Nat) (a1 a2 : Option Addr) (cap1 cap2 : Nat) (w : World) (h : M.isImage s = true) (hn : M.bz s 1 = n) (hm : M.bz s 2 = m) (hc : M.bz s 3 = c)
    (hr1 : HoldsRow w (.slice a1 m cap1) m (intCells (bvals s 4 (3 * m)))) (hr2 : HoldsRow w (.slice a2 c cap2) c (intCells (bvals s (4 + 3 * m) c))) :
    Calls Try.prog 57 #[.agg #[.int .i64 n, .slice a1 m cap1, .slice a2 c cap2]] w fun e w' => ∃ ao capo as_ caps, e = .returned (.agg #[.int .i64 n, .int .i64 (n + M.cnt s m : Nat), .slice ao c capo, .slice as_ (M.cnt s m) caps]) ∧
      HoldsRow w' (.slice ao c capo) c (intCells (nz (outC s c))) ∧ HoldsRow w' (.slice as_ (M.cnt s m) caps) (M.cnt s m) (intCells (nz (M.stepsM s m))) ∧ Below w.heap.size w w' := by
  obtain ⟨h0, h1, h2, h3, h4, h5, h6⟩ := M.headOk_eq (image_head h)
  rw [hn] at h1 h2
  rw [hm] at h3
  rw [hc] at h4 h5
  have HI := hide h
  have HN := hide hn
  have HM := hide hm
  have HC := hide hc
  have HB13 : Hid (0 < m → ∃ g, a1 = some ⟨g, 0, none⟩ ∧ g < w.heap.size ∧ ∀ j u, (intCells (bvals s 4 (3 * m)))[j]? = some u → w.cell? ⟨g, j, none⟩ = some u) := by
    obtain ⟨a, c, e, _, _, hx⟩ := hr1.shape
    simp only [Value.slice.injEq] at e
    obtain ⟨rfl, _, _⟩ := e
    exact hx
  have hcap : cap1 ≤ maxLen ∧ m ≤ cap1 := by
    obtain ⟨a, c, e, h1, h2, hx⟩ := hr1.shape
    simp only [Value.slice.injEq] at e
    obtain ⟨_, _, rfl⟩ := e
    exact ⟨h2, h1⟩
  obtain ⟨hcap1, hcap2⟩ := hcap
  unfold maxLen at hcap1
  obtain ⟨g2, rfl, hg2, hcell2⟩ : ∃ g, a2 = some ⟨g, 0, none⟩ ∧ g < w.heap.size ∧ ∀ j u, (intCells (bvals s (4 + 3 * m) c))[j]? = some u → w.cell? ⟨g, j, none⟩ = some u := by
    obtain ⟨a, c', e, _, _, hx⟩ := hr2.shape
    simp only [Value.slice.injEq] at e
    obtain ⟨rfl, _, _⟩ := e
    exact hx (by omega)
  have HC2 := hide hcell2
  have hcap2' : c ≤ cap2 ∧ cap2 ≤ maxLen := by
    obtain ⟨a, c', e, h1, h2, hx⟩ := hr2.shape
    simp only [Value.slice.injEq] at e
    obtain ⟨_, _, rfl⟩ := e
    exact ⟨h1, h2⟩
  obtain ⟨hcap3, hcap4⟩ := hcap2'
  unfold maxLen at hcap4
  have HR1 := hide hr1
  have HR2 := hide hr2
  clear h h0 h6 hr1 hr2 hn hm hc hcell2
  go_enter Try.func57, Try.ntmps57
  go_wp2_with fail
  have hbA : Below w.heap.size w ((w.alloc (.cells #[.int .i64 n, .slice a1 m cap1, .slice (some ⟨g2, 0, none⟩) c cap2] 66)).alloc (.cells #[.int .i64 0, .int .i64 0, .slice none 0 0, .slice none 0 0] 59)) := ((Below.refl _ _).alloc (Nat.le_refl _) _).alloc (by simp) _
  refine (fixed_at s n m c a1 _ cap1 cap2 _ (unhide HI) HN.out HM.out ((unhide HR1).mono hbA)).mono ?_
  rintro e w1 ⟨vk, rfl, hk1, hb1⟩
  have hB1 := hbA.trans (hb1.mono (by simp; omega))
  have z1 : 2 + w.heap.size ≤ w1.heap.size := by have := hb1.size; simp at this; omega
  have HX1 : Hid (Below (w.heap.size + 2) ((w.alloc (.cells #[.int .i64 n, .slice a1 m cap1, .slice (some ⟨g2, 0, none⟩) c cap2] 66)).alloc (.cells #[.int .i64 0, .int .i64 0, .slice none 0 0, .slice none 0 0] 59)) w1) := hb1.mono (by simp)
  have b0 : w1.cell? ⟨w.heap.size, 0, none⟩ = some (.int .i64 n) := ((unhide HX1).cell (p := ⟨w.heap.size, 0, none⟩) (by simp)).trans (by go_simp)
  have b1 : w1.cell? ⟨w.heap.size, 1, none⟩ = some (.slice a1 m cap1) := ((unhide HX1).cell (p := ⟨w.heap.size, 1, none⟩) (by simp)).trans (by go_simp)
  have b2 : w1.cell? ⟨w.heap.size, 2, none⟩ = some (.slice (some ⟨g2, 0, none⟩) c cap2) := ((unhide HX1).cell (p := ⟨w.heap.size, 2, none⟩) (by simp)).trans (by go_simp)
  have HK1 := hide hk1
  have HB1 := hide hB1
  clear hb1 hk1 hbA hB1
  go_wp2_with fail
  refine (needed_at s n m c a1 _ cap1 cap2 vk _ (unhide HI) HN.out HM.out HC.out ((unhide HR1).mono (unhide HB1)) ((unhide HR2).mono (unhide HB1)) (by have := unhide HK1; rw [← HM.out] at this; exact this)).mono ?_
  rintro e w2 ⟨vn, rfl, hk2, hb2⟩
  have z2 := hb2.size
  have HX2 := hide ((unhide HX1).trans (hb2.mono (by omega)))
  have HB2 := hide ((unhide HB1).trans (hb2.mono (by omega)))
  have HK2 := hide ((unhide HK1).mono hb2)
  have HN2 := hide hk2
  have c0 : w2.cell? ⟨w.heap.size, 0, none⟩ = some (.int .i64 n) := (hb2.cell (p := ⟨w.heap.size, 0, none⟩) (by show w.heap.size < _; omega)).trans b0
  have c1 : w2.cell? ⟨w.heap.size, 1, none⟩ = some (.slice a1 m cap1) := (hb2.cell (p := ⟨w.heap.size, 1, none⟩) (by show w.heap.size < _; omega)).trans b1
  have c2 : w2.cell? ⟨w.heap.size, 2, none⟩ = some (.slice (some ⟨g2, 0, none⟩) c cap2) := (hb2.cell (p := ⟨w.heap.size, 2, none⟩) (by show w.heap.size < _; omega)).trans b2
  clear hb2 hk2 b0 b1 b2 HK1 HB1 HX1
  go_wp2_with fail
  refine (netValues_at s ⟨#[]⟩ 0 n m c a1 _ cap1 cap2 _ (unhide HI) rfl (by omega) HN.out HM.out ((unhide HR1).mono (unhide HB2))).mono ?_
  rintro e w3 ⟨vv, rfl, hk3, hb3⟩
  have z3 := hb3.size
  have HX3 := hide ((unhide HX2).trans (hb3.mono (by omega)))
  have HB3 := hide ((unhide HB2).trans (hb3.mono (by omega)))
  have HK3 := hide ((unhide HK2).mono hb3)
  have HN3 := hide ((unhide HN2).mono hb3)
  have HV3 := hide hk3
  have d0 : w3.cell? ⟨w.heap.size, 0, none⟩ = some (.int .i64 n) := (hb3.cell (p := ⟨w.heap.size, 0, none⟩) (by show w.heap.size < _; omega)).trans c0
  have d1 : w3.cell? ⟨w.heap.size, 1, none⟩ = some (.slice a1 m cap1) := (hb3.cell (p := ⟨w.heap.size, 1, none⟩) (by show w.heap.size < _; omega)).trans c1
  have d2 : w3.cell? ⟨w.heap.size, 2, none⟩ = some (.slice (some ⟨g2, 0, none⟩) c cap2) := (hb3.cell (p := ⟨w.heap.size, 2, none⟩) (by show w.heap.size < _; omega)).trans c2
  have r0 : w3.cell? ⟨w.heap.size + 1, 0, none⟩ = some (.int .i64 0) := ((unhide HX3).cell (p := ⟨w.heap.size + 1, 0, none⟩) (by simp)).trans (by go_simp)
  have r1 : w3.cell? ⟨w.heap.size + 1, 1, none⟩ = some (.int .i64 0) := ((unhide HX3).cell (p := ⟨w.heap.size + 1, 1, none⟩) (by simp)).trans (by go_simp)
  have r2 : w3.cell? ⟨w.heap.size + 1, 2, none⟩ = some (.slice none 0 0) := ((unhide HX3).cell (p := ⟨w.heap.size + 1, 2, none⟩) (by simp)).trans (by go_simp)
  have r3 : w3.cell? ⟨w.heap.size + 1, 3, none⟩ = some (.slice none 0 0) := ((unhide HX3).cell (p := ⟨w.heap.size + 1, 3, none⟩) (by simp)).trans (by go_simp)
  have fr : ∀ o, w3.frozen? ⟨w.heap.size + 1, o, none⟩ = false := fun o => ((unhide HX3).frozen (p := ⟨w.heap.size + 1, o, none⟩) (by simp)).trans (by go_simp)
  have HD := hide (And.intro d0 (And.intro d1 d2))
  have HRES := hide (And.intro r0 (And.intro r1 (And.intro r2 (And.intro r3 fr))))
  have hz3 : w.heap.size + 2 ≤ w3.heap.size := by omega
  clear hb3 hk3 c0 c1 c2 HK2 HB2 HX2 HX3 HN2 r0 r1 r2 r3 fr z1 z2 z3
  have HCELL1 : Hid (∀ wr, Below w3.heap.size w3 wr → ∀ g j, g < w.heap.size → wr.cell? ⟨g, j, none⟩ = w.cell? ⟨g, j, none⟩) := fun wr hb g j hg =>
    (hb.cell (p := ⟨g, j, none⟩) (by show g < _; omega)).trans ((unhide HB3).cell (p := ⟨g, j, none⟩) hg)
  have HDr : Hid (∀ wr, Below w3.heap.size w3 wr → wr.cell? ⟨w.heap.size, 0, none⟩ = some (.int .i64 n) ∧ wr.cell? ⟨w.heap.size, 1, none⟩ = some (.slice a1 m cap1) ∧ wr.cell? ⟨w.heap.size, 2, none⟩ = some (.slice (some ⟨g2, 0, none⟩) c cap2)) := fun wr hb =>
    ⟨(hb.cell (p := ⟨w.heap.size, 0, none⟩) (by show w.heap.size < _; omega)).trans HD.out.1, (hb.cell (p := ⟨w.heap.size, 1, none⟩) (by show w.heap.size < _; omega)).trans HD.out.2.1, (hb.cell (p := ⟨w.heap.size, 2, none⟩) (by show w.heap.size < _; omega)).trans HD.out.2.2⟩
  go_wp2_with fail
  go_loopw [7, 8] (fun v i wr => ∃ k : Nat, k ≤ n ∧ i = .int .i64 k ∧ wr.ownsRow (w3.heap.size + 1) 3 1 v (nz (List.range k)).length (intCells (nz (List.range k))) ∧ BoxC wr w3.heap.size n n (.slice none 0 0) (.slice none 0 0) ∧ Below w3.heap.size w3 wr) (fun _ i _ => n - (intOf i).toNat)
  case atStart =>
    refine ⟨0, by omega, rfl, World.ownsRow_nil _ _ _ _, ⟨by simp, by simp, by simp, by simp, fun o => by simp, by simp⟩, (Below.refl _ _).alloc (Nat.le_refl _) _⟩
  case round =>
    clear d0 d1 d2
    obtain ⟨k, hk, rfl, hown, hbox, hbel⟩ := hrel
    obtain ⟨e0, e1, e2⟩ := unhide HDr _ hbel
    have hsz := hbox.2.2.2.2.2
    have HO := hide hown
    have HBX := hide hbox
    have HB := hide hbel
    clear hown hbel hbox
    by_cases hlt : k < n
    · have HS := hide (nz_range_succ k)
      go_wp2_with (at_builtin; (refine append_int _ rfl (.tmp 32) (.tmp 34) rfl (w3.heap.size + 1) u7 (nz (List.range k)) k rfl rfl (unhide HO) (by rw [nz_length]; simp; omega) (by omega) ?_); intro v' w5 hown1 hbel1 hsz1)
      have HR : Hid (w5.ownsRow (w3.heap.size + 1) 3 1 v' (nz (List.range (k + 1))).length (intCells (nz (List.range (k + 1))))) := by rw [HS.out]; exact hown1
      have HB1 := hide ((unhide HB).trans ((hbel1 _ (Below.refl _ _)).mono (by omega)))
      have HBX1 := hide ((unhide HBX).mono (hbel1 _ (Below.refl _ _)) (by omega))
      clear hown1 hbel1
      go_wp2
      go_roundw
      case rel => exact ⟨k + 1, by omega, by go_num, unhide HR, unhide HBX1, unhide HB1⟩
      case measure => simp [intOf]; omega
    · have hkn : n = k := by omega
      subst hkn
      have HO0 : Hid (wr.ownsRow (w3.heap.size + 1) 3 1 u7 (nz (M.cellsL s 0)).length (intCells (nz (M.cellsL s 0)))) := by rw [cellsL_zero, HN.out]; exact unhide HO
      have HNA : Hid (M.needA s = M.needL s m) := by rw [← HM.out]; rfl
      have HFA : Hid (M.fixA s = M.fixL s m) := by rw [← HM.out]; rfl
      have HZA : Hid (M.zeroRun s = M.runTo s ⟨#[]⟩ m) := by rw [← HM.out]; rfl
      clear HO hlt hk
      go_wp2_with fail
      go_loopw [7, 9] (fun v i wr => ∃ (k t q : Nat) (as_ : Option Addr) (caps : Nat), k ≤ m ∧ i = .int .i64 k ∧ Hid (M.cnt s k = t) ∧ q = n + t ∧ t ≤ k ∧
        wr.ownsRow (w3.heap.size + 1) 3 1 v (nz (M.cellsL s k)).length (intCells (nz (M.cellsL s k))) ∧ wr.ownsRow (w3.heap.size + 1) 83 4 (.slice as_ t caps) t (intCells (nz (M.stepsM s k))) ∧
        BoxC wr w3.heap.size n q (.slice none 0 0) (.slice as_ t caps) ∧ Below w3.heap.size w3 wr) (fun _ i _ => m - (intOf i).toNat)
      case atStart => exact ⟨0, 0, n, none, 0, by omega, rfl, rfl, by omega, by omega, unhide HO0, World.ownsRow_nil _ _ _ _, unhide HBX, unhide HB⟩
      case round =>
        clear HO0 HBX HB e0 e1 e2 hsz
        obtain ⟨k, t, q, as_, caps, hk, rfl, ht, hq, htk, hown, hstp, hbox, hbel⟩ := hrel
        have hq1 : q ≤ n + t := by omega
        have hq2 : n + t ≤ q := by omega
        clear hq
        obtain ⟨e0, e1, e2⟩ := unhide HDr _ hbel
        obtain ⟨x0, x1, x2, x3, xf, hsz⟩ := hbox
        have HBX : Hid (BoxC wr w3.heap.size n q (.slice none 0 0) (.slice as_ t caps)) := ⟨x0, x1, x2, x3, xf, hsz⟩
        have HO := hide hown
        have HS := hide hstp
        have HB := hide hbel
        clear x0 x2 x3 xf
        by_cases hlt : k < m
        · obtain ⟨g, rfl, hg, hcell⟩ := unhide HB13 (by omega)
          have HCELLS : Hid (∀ wr, Below w3.heap.size w3 wr → wr.cell? ⟨g, k * 3, none⟩ = some (.int .i64 (M.bz s (4 + 3 * k))) ∧ wr.cell? ⟨g, k * 3 + 1, none⟩ = some (.int .i64 (M.bz s (5 + 3 * k))) ∧ wr.cell? ⟨g, k * 3 + 2, none⟩ = some (.int .i64 (M.bz s (6 + 3 * k)))) := by
            intro wr hb
            refine ⟨?_, ?_, ?_⟩
            · have := (unhide HCELL1 wr hb g (k * 3) hg).trans (hcell (k * 3) _ (bvals_at s 4 (3 * m) (k * 3) (by omega)))
              rwa [show 4 + k * 3 = 4 + 3 * k from by omega] at this
            · have := (unhide HCELL1 wr hb g (k * 3 + 1) hg).trans (hcell (k * 3 + 1) _ (bvals_at s 4 (3 * m) (k * 3 + 1) (by omega)))
              rwa [show 4 + (k * 3 + 1) = 5 + 3 * k from by omega] at this
            · have := (unhide HCELL1 wr hb g (k * 3 + 2) hg).trans (hcell (k * 3 + 2) _ (bvals_at s 4 (3 * m) (k * 3 + 2) (by omega)))
              rwa [show 4 + (k * 3 + 2) = 6 + 3 * k from by omega] at this
          have hop : M.bz s (4 + 3 * k) ≤ 7 := M.okOp_seven' (M.image_okOp HI.out (k := k) (by rw [HM.out]; exact hlt))
          have hb1 := M.bz_lt s (5 + 3 * k)
          have hb2 := M.bz_lt s (6 + 3 * k)
          have HMA := hide (mv_a HI.out (k := k) (by rw [HM.out]; exact hlt))
          have HMB := hide (mv_b HI.out (k := k) (by rw [HM.out]; exact hlt))
          have HCS : Hid (nz (M.cellsL s (k + 1)) = nz (M.cellsL s k) ++ [(q : Int)]) := by rw [M.cellsL_succ, nz_append, ht.out, HN.out, show q = n + t from by omega]; rfl
          have HCL : Hid ((M.cellsL s k).length = n + k) := by rw [M.cellsL_length, HN.out]; rfl
          have HCNT : Hid (M.cnt s (k + 1) = if n + k ∈ M.needL s m then t + 1 else t) := by rw [← HNA.out, M.cnt, HN.out, ht.out]; rfl
          have HSTP : Hid (M.stepsM s (k + 1) = if n + k ∈ M.needL s m then M.stepsM s k ++ [M.inOp s k, M.inA s k, M.inB s k, q] else M.stepsM s k) := by rw [← HNA.out, M.stepsM, HN.out, ht.out, show q = n + t from by omega]; rfl
          have HQO : Hid (M.inOp s k = if n + k ∈ M.fixL s m then 0 else M.bz s (4 + 3 * k)) := by rw [← HFA.out, ← HN.out]; rfl
          have HIA : Hid (M.inA s k = if n + k ∈ M.fixL s m then (M.unword ((M.runTo s ⟨#[]⟩ m).getD (n + k) 0) / 256).toNat else M.mvA s k) := by rw [← HFA.out, ← HN.out, ← HZA.out]; rfl
          have HIB : Hid (M.inB s k = if n + k ∈ M.fixL s m then (M.unword ((M.runTo s ⟨#[]⟩ m).getD (n + k) 0) % 256).toNat else M.mvB s k) := by rw [← HFA.out, ← HN.out, ← HZA.out]; rfl
          clear hcell hown hstp hbel
          generalize M.bz s (4 + 3 * k) = x at *
          generalize M.bz s (5 + 3 * k) = y at *
          generalize M.bz s (6 + 3 * k) = z at *
          go_wp2_with (at_builtin; (refine append_int2 _ rfl (.tmp 47) (.tmp 50) rfl (w3.heap.size + 1) u7 (nz (M.cellsL s k)) q rfl rfl (unhide HO) (by rw [nz_length, HCL.out]; omega) (by omega) ?_); intro v' w5 hown5 hbel5 hsz5 hkeep5)
          have HO5 : Hid (w5.ownsRow (w3.heap.size + 1) 3 1 v' (nz (M.cellsL s (k + 1))).length (intCells (nz (M.cellsL s (k + 1))))) := by rw [HCS.out]; exact hown5
          have HS5 := hide (hkeep5 _ _ _ _ _ (by decide) (unhide HS))
          have HB5 := hide ((unhide HB).trans ((hbel5 _ (Below.refl _ _)).mono (by omega)))
          have HBX5 := hide ((unhide HBX).mono (hbel5 _ (Below.refl _ _)) (by omega))
          clear hown5 hkeep5 hbel5 e0 e1 e2 x1
          refine (has_at vn (M.needL s m) _ (n + k) _ ((unhide HN3).mono (unhide HB5)) (by omega)).mono ?_
          rintro e w' ⟨rfl, rfl⟩
          by_cases hnd : n + k ∈ M.needL s m
          · rw [decide_eq_true hnd]
            have HTN : Hid (M.cnt s (k + 1) = t + 1) := by rw [HCNT.out, if_pos hnd]; rfl
            have HSM : Hid (M.stepsM s (k + 1) = M.stepsM s k ++ [M.inOp s k, M.inA s k, M.inB s k, q]) := by rw [HSTP.out, if_pos hnd]; rfl
            clear hnd HSTP HCNT
            obtain ⟨e0, e1, e2⟩ := unhide HDr _ (unhide HB5)
            obtain ⟨f0, f1, f2⟩ := unhide HCELLS _ (unhide HB5)
            clear e0 e2
            have hr5 : HoldsRow w5 v' (M.cellsL s (k + 1)).length (intCells (nz (M.cellsL s (k + 1)))) := by
              have := holdsRow_own (unhide HO5)
              rw [nz_length] at this
              exact this
            have HR5 := hide hr5
            clear hr5
            go_wp2_with fail
            refine (moved_any x y z (M.mvA s k) (M.mvB s k) v' (M.cellsL s (k + 1)) _ (unhide HR5) hop hb1 hb2 HMA.out HMB.out).mono ?_
            rintro e w6 ⟨rfl, hb6⟩
            have hsz6 := hb6.size
            have HO6 := hide (ownsRow_below (unhide HO5) hb6)
            have HS6 := hide (ownsRow_below (unhide HS5) hb6)
            have HB6 := hide ((unhide HB5).trans (hb6.mono (by omega)))
            have HBX6 := hide ((unhide HBX5).mono hb6 (by omega))
            clear hb6 e1 f0 f1 f2 HO5 HS5 HB5 HBX5 HR5
            have HMA2 : Hid (M.mvA s k = M.mvA s k) := rfl
            generalize hA : M.mvA s k = A at *
            generalize hB : M.mvB s k = B at *
            clear hA hB HMA2
            go_wp2_with fail
            refine (has_at vk (M.fixL s m) _ (n + k) _ ((unhide HK3).mono ((unhide HB6).alloc (by omega) _)) (by omega)).mono ?_
            rintro e w' ⟨rfl, rfl⟩
            have hCD : ¬ w3.heap.size = w6.heap.size := by omega
            have hDC : ¬ w6.heap.size = w3.heap.size := by omega
            by_cases hfx : n + k ∈ M.fixL s m
            · rw [decide_eq_true hfx]
              have HSN : Hid (nz (M.stepsM s (k + 1)) = nz (M.stepsM s k) ++ [(0 : Int), (((M.unword ((M.runTo s ⟨#[]⟩ m).getD (n + k) 0) / 256).toNat : Nat) : Int), (((M.unword ((M.runTo s ⟨#[]⟩ m).getD (n + k) 0) % 256).toNat : Nat) : Int), (q : Int)]) := by
                rw [HSM.out, nz_append, HQO.out, HIA.out, HIB.out, if_pos hfx, if_pos hfx, if_pos hfx]; rfl
              have hvl := (M.runTo_vals s ⟨#[]⟩ m).getD (n + k)
              clear hfx HQO HIA HIB HSM HMA HMB
              have hbA : Below w6.heap.size w6 (w6.alloc (.cells #[.int .i64 x, .int .i64 A, .int .i64 B] 81)) := (Below.refl _ _).alloc (Nat.le_refl _) _
              have HBA := hide hbA
              clear hbA
              go_wp2_with fail
              refine (wordAt_at vv (M.runTo s ⟨#[]⟩ m) _ (n + k) _ ((unhide HV3).mono ((unhide HB6).trans ((unhide HBA).mono (by omega)))) (by omega) (by omega)).mono ?_
              rintro e w' ⟨rfl, rfl⟩
              generalize (M.runTo s ⟨#[]⟩ m).getD (n + k) 0 = val at *
              go_wp2_with fail
              refine (constant_any val _ hvl).mono ?_
              rintro e w7 ⟨rfl, hb7⟩
              have hsz7 : w6.heap.size + 1 ≤ w7.heap.size := by have := hb7.size; simp at this; omega
              have t0 : w7.cell? ⟨w6.heap.size, 0, none⟩ = some (.int .i64 x) := (hb7.cell (p := ⟨w6.heap.size, 0, none⟩) (by simp)).trans (by simp)
              have t1 : w7.cell? ⟨w6.heap.size, 1, none⟩ = some (.int .i64 A) := (hb7.cell (p := ⟨w6.heap.size, 1, none⟩) (by simp)).trans (by simp)
              have t2 : w7.cell? ⟨w6.heap.size, 2, none⟩ = some (.int .i64 B) := (hb7.cell (p := ⟨w6.heap.size, 2, none⟩) (by simp)).trans (by simp)
              have tf : ∀ o, w7.frozen? ⟨w6.heap.size, o, none⟩ = false := fun o => (hb7.frozen (p := ⟨w6.heap.size, o, none⟩) (by simp)).trans (by simp)
              have HB67 := hide ((unhide HBA).trans (hb7.mono (by simp)))
              have HBXW := hide ((unhide HBX6).mono (unhide HB67) (by omega))
              clear hb7
              generalize (M.unword val / 256).toNat = hi at *
              generalize (M.unword val % 256).toNat = lo at *
              have HBW : Hid (Below w6.heap.size w6 (((w7.setCell ⟨w6.heap.size, 0, none⟩ (.int .i64 0)).setCell ⟨w6.heap.size, 1, none⟩ (.int .i64 hi)).setCell ⟨w6.heap.size, 2, none⟩ (.int .i64 lo))) := (((unhide HB67).setCell (Nat.le_refl _) _).setCell (Nat.le_refl _) _).setCell (Nat.le_refl _) _
              have HS7 := hide (ownsRow_below (unhide HS6) (unhide HBW))
              have HO7 := hide (ownsRow_below (unhide HO6) (unhide HBW))
              have HBX7 := hide ((unhide HBX6).mono (unhide HBW) (by omega))
              have HB7 := hide ((unhide HB6).trans ((unhide HBW).mono (by omega)))
              obtain ⟨x0, x1, x2, x3, xf, xs⟩ := unhide HBXW
              clear x0 x2
              go_wp2_with (at_builtin; (refine append_step2 _ rfl (.tmp 72) (.tmp 77) rfl (w3.heap.size + 1) (.slice as_ t caps) t (nz (M.stepsM s k)) 0 hi lo q rfl (by simp [Act.eval]) (unhide HS7) (by omega) (by simp; omega) ?_); intro sv w8 hown8 hbel8 hsz8 hkeep8; have hbx8 := (unhide HBX7).mono (hbel8 _ (Below.refl _ _)) (by omega); obtain ⟨y0, y1, y2, y3, yf, ys⟩ := hbx8; obtain ⟨as2, caps2, rfl, hca, hcb, _⟩ := (holdsRow_own hown8).shape)
              have HBX8 : Hid (BoxC w8 w3.heap.size n q (.slice none 0 0) (.slice as_ t caps)) := ⟨y0, y1, y2, y3, yf, ys⟩
              have HB8 := hide ((unhide HB7).trans ((hbel8 _ (Below.refl _ _)).mono (by omega)))
              have HO8 := hide (hkeep8 _ _ _ _ _ (by decide) (unhide HO7))
              have HS8 : Hid (w8.ownsRow (w3.heap.size + 1) 83 4 (.slice as2 (t + 1) caps2) (t + 1) (intCells (nz (M.stepsM s (k + 1))))) := by rw [HSN.out]; exact hown8
              clear hown8 hbel8 hkeep8 y0 y1 y2 y3 yf ys
              go_wp2
              go_roundw
              case rel =>
                refine ⟨k + 1, t + 1, q + 1, as2, caps2, by omega, by go_num, HTN, by omega, by omega, ?_, ?_, ?_, ?_⟩
                · exact ownsRow_setCell_below (ownsRow_setCell_below (unhide HO8) (a := ⟨w3.heap.size, 3, none⟩) (by show w3.heap.size < _; omega) _) (a := ⟨w3.heap.size, 1, none⟩) (by show w3.heap.size < _; omega) _
                · exact ownsRow_setCell_below (ownsRow_setCell_below (unhide HS8) (a := ⟨w3.heap.size, 3, none⟩) (by show w3.heap.size < _; omega) _) (a := ⟨w3.heap.size, 1, none⟩) (by show w3.heap.size < _; omega) _
                · exact (((unhide HBX8).set3 _).set1 _)
                · exact ((unhide HB8).setCell (Nat.le_refl _) _).setCell (Nat.le_refl _) _
              case measure => simp [intOf]; omega
            · rw [decide_eq_false hfx]
              have HSN : Hid (nz (M.stepsM s (k + 1)) = nz (M.stepsM s k) ++ [(x : Int), (A : Int), (B : Int), (q : Int)]) := by
                rw [HSM.out, nz_append, HQO.out, HIA.out, HIB.out, if_neg hfx, if_neg hfx, if_neg hfx]; rfl
              clear hfx HQO HIA HIB HSM HMA HMB
              have HBW : Hid (Below w6.heap.size w6 (w6.alloc (.cells #[.int .i64 x, .int .i64 A, .int .i64 B] 81))) := (Below.refl _ _).alloc (Nat.le_refl _) _
              have HS7 := hide (ownsRow_below (unhide HS6) (unhide HBW))
              have HO7 := hide (ownsRow_below (unhide HO6) (unhide HBW))
              have HBX7 := hide ((unhide HBX6).mono (unhide HBW) (by omega))
              have HB7 := hide ((unhide HB6).trans ((unhide HBW).mono (by omega)))
              have HBXW := HBX6
              obtain ⟨x0, x1, x2, x3, xf, xs⟩ := unhide HBXW
              clear x0 x2
              go_wp2_with (at_builtin; (refine append_step2 _ rfl (.tmp 72) (.tmp 77) rfl (w3.heap.size + 1) (.slice as_ t caps) t (nz (M.stepsM s k)) x A B q rfl (by simp [Act.eval]) (unhide HS7) (by omega) (by simp; omega) ?_); intro sv w8 hown8 hbel8 hsz8 hkeep8; have hbx8 := (unhide HBX7).mono (hbel8 _ (Below.refl _ _)) (by omega); obtain ⟨y0, y1, y2, y3, yf, ys⟩ := hbx8; obtain ⟨as2, caps2, rfl, hca, hcb, _⟩ := (holdsRow_own hown8).shape)
              have HBX8 : Hid (BoxC w8 w3.heap.size n q (.slice none 0 0) (.slice as_ t caps)) := ⟨y0, y1, y2, y3, yf, ys⟩
              have HB8 := hide ((unhide HB7).trans ((hbel8 _ (Below.refl _ _)).mono (by omega)))
              have HO8 := hide (hkeep8 _ _ _ _ _ (by decide) (unhide HO7))
              have HS8 : Hid (w8.ownsRow (w3.heap.size + 1) 83 4 (.slice as2 (t + 1) caps2) (t + 1) (intCells (nz (M.stepsM s (k + 1))))) := by rw [HSN.out]; exact hown8
              clear hown8 hbel8 hkeep8 y0 y1 y2 y3 yf ys
              go_wp2
              go_roundw
              case rel =>
                refine ⟨k + 1, t + 1, q + 1, as2, caps2, by omega, by go_num, HTN, by omega, by omega, ?_, ?_, ?_, ?_⟩
                · exact ownsRow_setCell_below (ownsRow_setCell_below (unhide HO8) (a := ⟨w3.heap.size, 3, none⟩) (by show w3.heap.size < _; omega) _) (a := ⟨w3.heap.size, 1, none⟩) (by show w3.heap.size < _; omega) _
                · exact ownsRow_setCell_below (ownsRow_setCell_below (unhide HS8) (a := ⟨w3.heap.size, 3, none⟩) (by show w3.heap.size < _; omega) _) (a := ⟨w3.heap.size, 1, none⟩) (by show w3.heap.size < _; omega) _
                · exact (((unhide HBX8).set3 _).set1 _)
                · exact ((unhide HB8).setCell (Nat.le_refl _) _).setCell (Nat.le_refl _) _
              case measure => simp [intOf]; omega
          · rw [decide_eq_false hnd]
            have HTN : Hid (M.cnt s (k + 1) = t) := by rw [HCNT.out, if_neg hnd]; rfl
            have HSN : Hid (M.stepsM s (k + 1) = M.stepsM s k) := by rw [HSTP.out, if_neg hnd]; rfl
            clear hnd
            go_wp2
            go_roundw
            case rel => exact ⟨k + 1, t, q, as_, caps, by omega, by go_num, HTN, by omega, by omega, unhide HO5, by rw [HSN.out]; exact unhide HS5, unhide HBX5, unhide HB5⟩
            case measure => simp [intOf]; omega
        · have hkm : m = k := by omega
          subst hkm
          have HNC := hide (row_not hown)
          have HNS := hide (row_not hstp)
          have HNS2 := hide (row_low (b := w.heap.size + 1) hstp (by omega))
          have HRC : Hid (HoldsRow wr u7 (M.cellsL s m).length (intCells (nz (M.cellsL s m)))) := by
            have := holdsRow_own hown
            rw [nz_length] at this
            exact this
          have HRS := hide (holdsRow_own hstp)
          have HOC : Hid (∀ j, j < c → nz (outC s (j + 1)) = nz (outC s j) ++ [(((M.cellsL s m).getD (M.bz s (4 + 3 * m + j)) 0 : Nat) : Int)]) := by
            intro j hj
            have := M.image_outOk HI.out (k := j) (by rw [HC.out]; exact hj)
            rw [HM.out, HN.out] at this
            rw [outC_succ, nz_append, HM.out, M.cellsL_at (by rw [HN.out]; exact this)]
            rfl
          clear hown hstp hbel HO HS hlt hk x1
          obtain ⟨w9, hw9⟩ : ∃ w9, w9 = wr := ⟨wr, rfl⟩
          subst hw9
          have hsz9 : w3.heap.size < w9.heap.size := hsz
          go_wp2_with fail
          go_loopw [13] (fun i wz => ∃ (j : Nat) (ao : Option Addr) (capo : Nat), j ≤ c ∧ i = .int .i64 j ∧ wz.ownsRow w9.heap.size 3 1 (.slice ao j capo) j (intCells (nz (outC s j))) ∧
            BoxC wz w3.heap.size n q (.slice ao j capo) (.slice as_ t caps) ∧ KeepBut w3.heap.size w9.heap.size w9 wz ∧ Below w3.heap.size w3 wz) (fun i _ => c - (intOf i).toNat)
          case atStart => exact ⟨0, none, 0, by omega, rfl, World.ownsRow_nil _ _ _ _, unhide HBX, KeepBut.refl _ _ _ (Nat.le_refl _), unhide HB⟩
          case round =>
            clear HBX HB hsz e0 e1 e2
            obtain ⟨j, ao, capo, hj, rfl, hownz, hboxz, hkeep, hbelz⟩ := hrel
            obtain ⟨e0, e1, e2⟩ := unhide HDr _ hbelz
            obtain ⟨x0, x1, x2, x3, xf, hszz⟩ := hboxz
            have HBX : Hid (BoxC wr w3.heap.size n q (.slice ao j capo) (.slice as_ t caps)) := ⟨x0, x1, x2, x3, xf, hszz⟩
            have hwz : w9.heap.size ≤ wr.heap.size := hkeep.2
            have HO := hide hownz
            have HKP := hide hkeep
            have HB := hide hbelz
            have HRC1 := hide ((unhide HRC).keepBut (unhide HNC) hkeep)
            have HRS1 := hide ((unhide HRS).keepBut (unhide HNS) hkeep)
            clear hownz hkeep e0 e1
            by_cases hlt : j < c
            · have hcl : wr.cell? ⟨g2, j, none⟩ = some (.int .i64 (M.bz s (4 + 3 * m + j))) := (unhide HCELL1 _ hbelz g2 j hg2).trans (unhide HC2 j _ (bvals_at s (4 + 3 * m) c j hlt))
              have hbz := M.bz_lt s (4 + 3 * m + j)
              have HNX := hide (HOC.out j hlt)
              have hij : (j : Int) < (c : Int) := by omega
              clear hbelz x0 x1 x3
              generalize M.bz s (4 + 3 * m + j) = o at *
              have HAT := hide (fun w (h : HoldsRow w u7 (M.cellsL s m).length (intCells (nz (M.cellsL s m)))) => at_nat u7 (M.cellsL s m) o w h (by omega))
              generalize (M.cellsL s m).getD o 0 = y at *
              have HO1 : Hid (wr.ownsRow w9.heap.size 3 1 (.slice ao j capo) (nz (outC s j)).length (intCells (nz (outC s j)))) := by rw [nz_length, outC_length]; exact unhide HO
              have HLN : Hid ((nz (outC s j) ++ [(y : Int)]).length = j + 1) := by rw [List.length_append, nz_length, outC_length]; rfl
              have HLJ : Hid ((nz (outC s j)).length = j) := by rw [nz_length, outC_length]; rfl
              go_wp2_with fail
              go_region_law ((first | (refine step_int rfl (.tmp 92) (.tmp 100) rfl w9.heap.size (.slice ao j capo) (nz (outC s j)) (y : Int) _ (by rfl) (by rfl) (by simp) (by first | exact ((unhide HO1).alloc _).drew | exact ((unhide HO1).drew).alloc _) (by rw [HLJ.out]; omega) (by simp; omega) ?_; intro v' w1 hown1 hbel1 hsz1; have hbw := hbel1 wr (by first | exact ((Below.refl _ _).alloc (by omega) _).drew | exact ((Below.refl _ _).drew).alloc (by simp; omega) _); obtain ⟨y0, y1, y2, y3, yf, ys⟩ := (unhide HBX).mono hbw (by omega); rw [HLN.out] at hown1; obtain ⟨ao2, capo2, rfl, hca, hcb, _⟩ := (holdsRow_own hown1).shape; have k2 := (hbw.cell (p := ⟨w.heap.size, 2, none⟩) (by show w.heap.size < _; omega)).trans e2; have k3 := (hbw.cell (p := ⟨g2, j, none⟩) (by show g2 < _; omega)).trans hcl) | (go_simp; refine (unhide HAT _ (by first | exact (unhide HRC1).mono (Below.refl _ _).drew | exact unhide HRC1)).mono ?_; rintro e w' ⟨rfl, rfl⟩)))
              all_goals
                have HBX1 : Hid (BoxC w1 w3.heap.size n q (.slice ao j capo) (.slice as_ t caps)) := ⟨y0, y1, y2, y3, yf, ys⟩
                have HOX : Hid (w1.ownsRow w9.heap.size 3 1 (.slice ao2 (j + 1) capo2) (j + 1) (intCells (nz (outC s (j + 1))))) := by rw [HNX.out]; exact hown1
                have HBW := hide hbw
                clear hown1 hbel1 hbw y0 y1 y3 k2 k3
                go_wp2
                go_roundw
                case rel =>
                  refine ⟨j + 1, ao2, capo2, by omega, by go_num, ?_, ?_, ?_, ?_⟩
                  · exact ownsRow_setCell_below (unhide HOX) (a := ⟨w3.heap.size, 2, none⟩) (by show w3.heap.size < _; omega) _
                  · exact (unhide HBX1).set2 _
                  · exact ((unhide HKP).below (unhide HBW)).set 2 _
                  · exact ((unhide HB).trans ((unhide HBW).mono (by omega))).setCell (Nat.le_refl _) _
                case measure => simp [intOf]; omega
            · have hjc : c = j := by omega
              subst hjc
              obtain ⟨r0, r1, r2, r3, fr⟩ := unhide HRES
              have s0 : wr.cell? ⟨w.heap.size + 1, 0, none⟩ = some (.int .i64 0) := (hbelz.cell (p := ⟨w.heap.size + 1, 0, none⟩) (by show w.heap.size + 1 < _; omega)).trans r0
              have s1 : wr.cell? ⟨w.heap.size + 1, 1, none⟩ = some (.int .i64 0) := (hbelz.cell (p := ⟨w.heap.size + 1, 1, none⟩) (by show w.heap.size + 1 < _; omega)).trans r1
              have s2 : wr.cell? ⟨w.heap.size + 1, 2, none⟩ = some (.slice none 0 0) := (hbelz.cell (p := ⟨w.heap.size + 1, 2, none⟩) (by show w.heap.size + 1 < _; omega)).trans r2
              have s3 : wr.cell? ⟨w.heap.size + 1, 3, none⟩ = some (.slice none 0 0) := (hbelz.cell (p := ⟨w.heap.size + 1, 3, none⟩) (by show w.heap.size + 1 < _; omega)).trans r3
              have sf : ∀ o, wr.frozen? ⟨w.heap.size + 1, o, none⟩ = false := fun o => (hbelz.frozen (p := ⟨w.heap.size + 1, o, none⟩) (by show w.heap.size + 1 < _; omega)).trans (fr o)
              have HFIN : Hid (∀ x0 x1 x2 x3 : Value, HoldsRow ((((wr.setCell ⟨w.heap.size + 1, 0, none⟩ x0).setCell ⟨w.heap.size + 1, 1, none⟩ x1).setCell ⟨w.heap.size + 1, 2, none⟩ x2).setCell ⟨w.heap.size + 1, 3, none⟩ x3) (.slice ao c capo) c (intCells (nz (outC s c))) ∧
                  HoldsRow ((((wr.setCell ⟨w.heap.size + 1, 0, none⟩ x0).setCell ⟨w.heap.size + 1, 1, none⟩ x1).setCell ⟨w.heap.size + 1, 2, none⟩ x2).setCell ⟨w.heap.size + 1, 3, none⟩ x3) (.slice as_ t caps) t (intCells (nz (M.stepsM s m)))) := by
                intro x0 x1 x2 x3
                have q1 := row_low (b := w.heap.size + 1) (unhide HO) (by omega)
                exact ⟨((((holdsRow_own (unhide HO)).setOther q1 0 x0).setOther q1 1 x1).setOther q1 2 x2).setOther q1 3 x3, ((((unhide HRS1).setOther (unhide HNS2) 0 x0).setOther (unhide HNS2) 1 x1).setOther (unhide HNS2) 2 x2).setOther (unhide HNS2) 3 x3⟩
              have HBF : Hid (Below w.heap.size w wr) := (unhide HB3).trans (hbelz.mono (by omega))
              clear hbelz r0 r1 r2 r3 fr HRES
              go_wp2
              refine bodyPost_ret (v := .agg #[.int .i64 n, .int .i64 q, .slice ao c capo, .slice as_ t caps]) (by simp [results, Try.results57, go_sem, s0, s1, s2, s3]) rfl ?_
              refine ⟨ao, capo, as_, caps, ?_, ?_, ?_, ?_⟩
              · rw [ht.out, show q = n + t from by omega]
              · exact (unhide HFIN _ _ _ _).1
              · rw [ht.out]; exact (unhide HFIN _ _ _ _).2
              · exact ((((unhide HBF).setCell (by simp) _).setCell (by simp) _).setCell (by simp) _).setCell (by simp) _
end Go.Proofs.Ytjfmiomopfjecaa

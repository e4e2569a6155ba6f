/- The walk of slotskeep.Nodes. -/
import Derived.Test.YtjfmiomopfjecaaNodeEval
namespace Go.Proofs.Ytjfmiomopfjecaa
open Go.RowKit

theorem kOne_in {B : Nat} {w0 : World} (v : Int) (W : World) (h0 : 0 ≤ v) (h1 : v ≤ 255) (hW : Below B w0 W) (hB : B ≤ W.heap.size) :
    Calls Try.prog 24 #[.int .i64 v] W fun e w' => e = .returned (.string (M.bytesOf [v.toNat])) ∧ Below B w0 w' ∧ B ≤ w'.heap.size := by
  obtain ⟨n, rfl⟩ := Int.eq_ofNat_of_zero_le h0
  rw [Int.toNat_natCast]
  exact kOne_at n W (by omega) hW hB
theorem kSigned_in {B : Nat} {w0 : World} (l : List Nat) (W : World) (hl : l.length = 2) (ha : M.AllB l) (hW : Below B w0 W) (hB : B ≤ W.heap.size) :
    Calls Try.prog 29 #[.string (M.bytesOf l)] W fun e w' => e = .returned (.int .i64 (M.wordVal ((l.getD 0 0 : Int) * 256 + (l.getD 1 0 : Nat)))) ∧ Below B w0 w' ∧ B ≤ w'.heap.size :=
  (kSigned_any l W hl ha).mono fun _ _ ⟨a, b⟩ => ⟨a, hW.trans (b.mono hB), Nat.le_trans hB b.size⟩

theorem kSigned_w {B : Nat} {w0 : World} (v : Int) (W : World) (hv : M.IsVal v) (hW : Below B w0 W) (hB : B ≤ W.heap.size) :
    Calls Try.prog 29 #[.string (M.bytesOf (M.wordL v))] W fun e w' => e = .returned (.int .i64 v) ∧ Below B w0 w' ∧ B ≤ w'.heap.size := by
  have h := kSigned_in (M.wordL v) W rfl (M.wordL_all hv) hW hB
  rw [M.word_back hv] at h
  exact h
theorem doesV_val (op : Nat) {x y : Int} (b : Nat) (hx : M.IsVal x) (hy : M.IsVal y) : M.IsVal (doesV op x y b) := by
  unfold doesV
  split
  · exact M.shift_val hx b
  · split
    · unfold M.mx
      split
      · exact hx
      · unfold M.IsVal; omega
    · exact M.nodeDo_val hx hy (by omega) (by omega)

set_option maxHeartbeats 3200000 in
theorem nodesLaw (i o : Int) (t0 s0 : ByteArray) (op a b : Int) (inp : ByteArray) (w : World)
    (hi0 : -9223372036854775808 ≤ i) (hi1 : i ≤ 9223372036854775807) (ht0 : t0.size ≤ maxLen) (hs0 : s0.size ≤ maxLen)
    (hop0 : -9223372036854775808 ≤ op) (hop1 : op ≤ 9223372036854775807) (ha0 : -9223372036854775808 ≤ a) (ha1 : a ≤ 9223372036854775807) (hb0 : -9223372036854775808 ≤ b) (hb1 : b ≤ 9223372036854775807) (hin : inp.size ≤ maxLen) :
    Calls Try.prog 6 #[.agg #[.int .i64 i, .int .i64 o, .string t0, .string s0], .int .i64 op, .int .i64 a, .int .i64 b, .string inp] w fun e w' => e = .returned (.bool true) ∧ Below w.heap.size w w' := by
  have htz : (fstT t0 69).size ≤ maxLen := by rw [fstT_size]; unfold maxLen; omega
  have htm : nodesN (fstT t0 69) ≤ 23 := by
    have := fstT_size t0 69
    have := fstT_size (fstT t0 69) 72
    unfold nodesN
    omega
  have hos := one_size
  go_enter Try.func6, Try.ntmps6
  go_wp2_with fail
  refine (kFirst_any t0 69 _ ht0 (by omega)).mono ?_
  rintro e w' ⟨rfl, rfl⟩
  generalize fstT t0 69 = t at *
  go_wp2_with fail
  refine (kImage_any i 1 t s0 _ hi0 hi1 (by omega) (by omega) htz hs0).mono ?_
  rintro e w1 ⟨rfl, hb1⟩
  have hbB : Below (w.heap.size + 1) (w.alloc (.cells #[.int .i64 i, .int .i64 1, .string t, .string s0] 33)) w1 := hb1.mono (by simp)
  have hzB := hb1.size
  simp only [World.size_alloc] at hzB
  clear hb1
  obtain ⟨_, f1, f2, _, f4⟩ := imageL_facts i 1 t s0
  have HCUT : Hid ((M.bytesOf (imageL i 1 t s0)).extract 0 (4 + 3 * nodesN t) = M.bytesOf ([77, inN i, nodesN t, 2] ++ M.nodesL (fstT t 72) (inN i) (nodesN t))) := by
    rw [M.bytesOf_extract, Nat.sub_zero]
    unfold imageL
    rw [take_img _ _ _ _ _ (M.nodesL_length _ _ _)]
    rfl
  have HHZ : Hid ((M.bytesOf ([77, inN i, nodesN t, 2] ++ M.nodesL (fstT t 72) (inN i) (nodesN t))).size = 4 + 3 * nodesN t) := by
    rw [M.bytesOf_size, List.length_append, M.nodesL_length]; rfl
  have bi := inN_bd i
  have bo := inN_bd 1
  have p1 : 1 < (M.bytesOf (imageL i 1 t s0)).size := by omega
  have p2 : 2 < (M.bytesOf (imageL i 1 t s0)).size := by omega
  rw [← M.bz_at _ 1 p1] at f1
  rw [← M.bz_at _ 2 p2] at f2
  generalize M.bytesOf (imageL i 1 t s0) = I at *
  have hI1 : 4 + 3 * nodesN t ≤ I.size := by omega
  have hI2 : I.size ≤ 4 + 3 * nodesN t + 4 := by omega
  have q1 : (I[1]'p1).toNat < 256 := UInt8.toNat_lt _
  have q2 : (I[2]'p2).toNat < 256 := UInt8.toNat_lt _
  have i1 : (1 : Int) < (I.size : Int) := by omega
  have i2 : (2 : Int) < (I.size : Int) := by omega
  have u1 : IntKind.i64.wrap ((I[1]'p1).toNat : Int) = ((I[1]'p1).toNat : Int) := IntWalk.i64_in _ ⟨by omega, by omega⟩
  have u2 : IntKind.i64.wrap ((I[2]'p2).toNat : Int) = ((I[2]'p2).toNat : Int) := IntWalk.i64_in _ ⟨by omega, by omega⟩
  have u3 : IntKind.i64.wrap (((I[1]'p1).toNat : Int) + ((I[2]'p2).toNat : Int)) = ((I[1]'p1).toNat : Int) + ((I[2]'p2).toNat : Int) := IntWalk.i64_in _ ⟨by omega, by omega⟩
  have F1 := hide f1
  have F2 := hide f2
  clear f1 f2 f4
  go_wp2_with fail
  go_quiet (fail)
  clear u1 u2 u3
  go_wp2_with fail
  have hbC := below_drewN hbB nq
  have hzC : w.heap.size + 1 ≤ (w1.drewN nq).heap.size := hzB
  generalize w1.drewN nq = w2 at *
  have HBC := hide hbC
  clear hbB hzB hbC
  rw [F1.out, F2.out, show ((inN i : Int) + (nodesN t : Int)) = ((inN i + nodesN t : Nat) : Int) from by omega]
  have bx := M.pk_lt a (inN i + nodesN t) (by omega)
  have by_ := M.pk_lt b (inN i + nodesN t) (by omega)
  have bk := M.pk_lt op 8 (by omega)
  have bsh := M.pk_lt b 16 (by omega)
  have bA := M.pk_lt a 256 (by omega)
  have bB := M.pk_lt b 256 (by omega)
  refine (kPick_any a (inN i + nodesN t) _ ha0 ha1 (by omega) (by omega)).mono ?_
  rintro e w' ⟨rfl, rfl⟩
  go_wp2_with fail
  rw [show ((inN i : Int) + (nodesN t : Int)) = ((inN i + nodesN t : Nat) : Int) from by omega]
  refine (kPick_any b (inN i + nodesN t) _ hb0 hb1 (by omega) (by omega)).mono ?_
  rintro e w' ⟨rfl, rfl⟩
  go_wp2_with fail
  refine (kPick_any op 8 _ hop0 hop1 (by omega) (by omega)).mono ?_
  rintro e w' ⟨rfl, rfl⟩
  generalize M.pk a (inN i + nodesN t) = x at *
  generalize M.pk b (inN i + nodesN t) = y at *
  generalize M.pk op 8 = k at *
  go_wp2_with fail
  rw [F2.out]
  have HS2 : Hid (M.bytesOf ([77, inN i, nodesN t, 2] ++ M.nodesL (fstT t 72) (inN i) (nodesN t)) ++ M.bytesOf [x] ++ M.bytesOf [y] = M.bytesOf (pairL i t x y)) := by
    rw [M.bytesOf_append, M.bytesOf_append]
    unfold pairL M.imgL
    show M.bytesOf _ = M.bytesOf _
    congr 1
    simp
  generalize M.bytesOf ([77, inN i, nodesN t, 2] ++ M.nodesL (fstT t 72) (inN i) (nodesN t)) = H at *
  have s1 : (0 : Int) ≤ 4 + 3 * (nodesN t : Int) := by omega
  have s2 : 4 + 3 * (nodesN t : Int) ≤ (I.size : Int) := by omega
  have s3 : (4 + 3 * (nodesN t : Int)).toNat = 4 + 3 * nodesN t := by omega
  have s4 := HCUT.out
  have hH := HHZ.out
  have k0 : ¬ 9223372036854775807 < H.size + 1 := by omega
  have k1 : ¬ 9223372036854775807 < H.size + 1 + 1 := by omega
  have k2 : ¬ 9223372036854775806 < H.size := by omega
  have k3 : ¬ 9223372036854775805 < H.size := by omega
  have k4 : ¬ 9223372036854775806 < H.size + 1 := by omega
  clear hH
  go_region_held3 (fun _ => True) (first | trivial | (intros; trivial)) ((go_at_call 24; refine (kOne_in _ _ (by omega) (by omega) (by first | exact hbN | exact (unhide HBC).drew) (by first | exact hzN | exact hzC)).mono ?_; rintro e w3 ⟨rfl, hbN, hzN⟩))
  clear s1 s2 s3 s4 k0 k1 k2 k3 k4
  rw [HS2.out]
  obtain ⟨g0, g1, g2, g3, g4⟩ := pair_facts i t x y bx by_
  have HEV := hide (fun q => pair_eval i t q x y bx by_)
  have HBH := hide (fun (q : ByteArray) (op a b : Nat) (h1 : op < 256) (h2 : a < 256) (h3 : b < 256) (h4 : M.okOp op a b (inN i + nodesN t) = true) => behind_eval i t q op a b x y htm h1 h2 h3 h4 bx by_)
  have HAS := hide (fun (z : Nat) (hz : z < inN i) => asked i t inp x y z bx by_ hz)
  generalize M.bytesOf (pairL i t x y) = S at *
  have G0 := hide g0
  have G1 := hide g1
  have hS1 : 2 ≤ S.size := by omega
  have hS2 : S.size ≤ 1000 := by omega
  have HBN := hide hbN
  clear g0 g1 g2 g3 g4 hbN HBC hzC HCUT HHZ HS2
  go_wp2_with fail
  refine (kQuestion_any S inp _ hS1 hS2 hin).mono ?_
  rintro e w' ⟨rfl, rfl⟩
  rw [G1.out]
  have hqz : Hid ((M.bytesOf (M.fillL inp (2 * inN i))).size = 2 * M.bz S 1) := by rw [M.bytesOf_size, M.fillL_length, G1.out]; rfl
  have HQX := hide (fun (z : Nat) => M.bytesOf_extract (M.fillL inp (2 * inN i)) (2 * z) (2 * z + 2))
  generalize M.bytesOf (M.fillL inp (2 * inN i)) = q at *
  go_wp2_with fail
  refine (kAnswers_any S q _ (unhide G0) (unhide hqz)).mono ?_
  rintro e w4 ⟨rfl, hb4⟩
  have HB4 := hide ((unhide HBN).trans (hb4.mono hzN))
  have hz4 := Nat.le_trans hzN hb4.size
  clear hb4 HBN hzN
  rw [(unhide HEV) q]
  have hvals := M.runTo_vals S q (nodesN t)
  have HBQ := hide ((unhide HBH) q)
  generalize M.runTo S q (nodesN t) = l at *
  have vx := hide (hvals.getD x)
  have vy := hide (hvals.getD y)
  clear hvals HEV HBH
  have HDO := hide (fun (op a b sh : Nat) => does_eq op l x y a b sh)
  have HAX : Hid (x < M.bz S 1 → M.bytesOf (M.wordL (l.getD x 0)) = q.extract (2 * x) (2 * x + 2)) := fun h => by
    rw [(unhide HQX) x, (unhide HAS) x (by rw [← G1.out]; exact h), show 2 * x + 2 - 2 * x = 2 from by omega]
  have HAY : Hid (y < M.bz S 1 → M.bytesOf (M.wordL (l.getD y 0)) = q.extract (2 * y) (2 * y + 2)) := fun h => by
    rw [(unhide HQX) y, (unhide HAS) y (by rw [← G1.out]; exact h), show 2 * y + 2 - 2 * y = 2 from by omega]
  have HN0 : Hid (∀ z sh, M.nodeVal l 0 z sh = M.wordVal ((z : Int) * 256 + sh)) := fun z sh => rfl
  generalize l.getD x 0 = lx at *
  generalize l.getD y 0 = ly at *
  have hV4 : (M.bytesOf (M.wordL lx ++ M.wordL ly)).size = 4 := by rw [M.bytesOf_size]; rfl
  have HV0 : Hid ((M.bytesOf (M.wordL lx ++ M.wordL ly)).extract 0 2 = M.bytesOf (M.wordL lx)) := by rw [M.bytesOf_extract]; rfl
  have HV2 : Hid ((M.bytesOf (M.wordL lx ++ M.wordL ly)).extract 2 (M.bytesOf (M.wordL lx ++ M.wordL ly)).size = M.bytesOf (M.wordL ly)) := by rw [hV4, M.bytesOf_extract]; rfl
  generalize M.bytesOf (M.wordL lx ++ M.wordL ly) = V at *
  have hV1 : 4 ≤ V.size := by omega
  have hV3 : V.size ≤ 4 := by omega
  clear hV4
  go_wp2_with fail
  rw [HV0.out]
  refine (kInput_any S q _ x _ hS1 hS2 (unhide hqz) (by omega) (unhide HAX)).mono ?_
  rintro e w' ⟨rfl, rfl⟩
  go_wp2_with fail
  rw [HV2.out]
  refine (kInput_any S q _ y _ hS1 hS2 (unhide hqz) (by omega) (unhide HAY)).mono ?_
  rintro e w' ⟨rfl, rfl⟩
  go_wp2_with fail
  refine (kPick_any b 16 _ hb0 hb1 (by omega) (by omega)).mono ?_
  rintro e w' ⟨rfl, rfl⟩
  generalize M.pk b 16 = sh at *
  have hks : k = 0 ∨ k = 6 ∨ k = 7 ∨ (1 ≤ k ∧ k ≤ 5) := by omega
  rcases hks with rfl | rfl | rfl | hk15
  · have r1 : (2 : Int) ≤ (V.size : Int) := by omega
    have r2 := HV0.out
    have r3 := HV2.out
    go_wp2_with fail
    refine (kPick_any a 256 _ ha0 ha1 (by omega) (by omega)).mono ?_
    rintro e w' ⟨rfl, rfl⟩
    go_wp2_with fail
    refine (kPick_any b 256 _ hb0 hb1 (by omega) (by omega)).mono ?_
    rintro e w' ⟨rfl, rfl⟩
    generalize M.pk a 256 = A at *
    generalize M.pk b 256 = Z at *
    go_wp2_with fail
    go_region_held3 (fun _ => True) (first | trivial | (intros; trivial)) ((first | (go_at_call 29; refine (kSigned_w _ _ (by first | exact unhide vx | exact unhide vy) (by first | exact hbM | exact (unhide HB4).drew) (by first | exact hzM | exact hz4)).mono ?_; rintro e w5 ⟨rfl, hbM, hzM⟩) | (go_at_call 28; refine (kDoes_any 0 lx ly sh _ (unhide vx) (unhide vy) (by omega) (by omega)).mono ?_; rintro e w' ⟨rfl, rfl⟩)))
    clear r1 r2 r3
    have hvd := hide (doesV_val 0 sh (unhide vx) (unhide vy))
    have HW := hide ((unhide HBQ) 0 A Z (by omega) (by omega) (by omega) (rfl))
    have HF := hide (behind_facts i t 0 A Z htm (by omega) (by omega) (by omega) (rfl))
    have HNV : Hid (M.nodeVal l 0 A Z = M.wordVal ((A : Int) * 256 + (Z : Int))) := (unhide HN0) A Z
    generalize doesV 0 lx ly sh = want at *
    have hA2 : (M.bytesOf [A]).size = 1 := hos A
    have hvA : Hid (M.IsVal (M.wordVal ((A : Int) * 256 + (Z : Int)))) := M.wordVal_val (by omega) (by omega)
    have HAZ : Hid (M.bytesOf [A] ++ M.bytesOf [Z] = M.bytesOf (M.wordL (M.wordVal ((A : Int) * 256 + (Z : Int))))) := by rw [M.bytesOf_append, M.wordL_wordVal (by omega) (by omega)]; rfl
    go_wp2_with fail
    refine (kOne_at A _ (by omega) hbM hzM).mono ?_
    rintro e w6 ⟨rfl, hb6, hz6⟩
    go_wp2_with fail
    refine (kOne_at Z _ (by omega) hb6 hz6).mono ?_
    rintro e w7 ⟨rfl, hb7, hz7⟩
    go_wp2_with fail
    rw [HAZ.out]
    refine (kSigned_w _ _ (unhide hvA) hb7 hz7).mono ?_
    rintro e w8 ⟨rfl, hb8, hz8⟩
    clear hb6 hb7 hbM
    generalize M.wordVal ((A : Int) * 256 + (Z : Int)) = want2 at *
    have x0 := (hb8.cell (p := ⟨w.heap.size, 0, none⟩) (by simp)).trans (show (w.alloc (.cells #[.int .i64 i, .int .i64 1, .string t, .string s0] 33)).cell? ⟨w.heap.size, 0, none⟩ = some (.int .i64 i) from by simp)
    have x1 := (hb8.cell (p := ⟨w.heap.size, 1, none⟩) (by simp)).trans (show (w.alloc (.cells #[.int .i64 i, .int .i64 1, .string t, .string s0] 33)).cell? ⟨w.heap.size, 1, none⟩ = some (.int .i64 1) from by simp)
    have x2 := (hb8.cell (p := ⟨w.heap.size, 2, none⟩) (by simp)).trans (show (w.alloc (.cells #[.int .i64 i, .int .i64 1, .string t, .string s0] 33)).cell? ⟨w.heap.size, 2, none⟩ = some (.string t) from by simp)
    have x3 := (hb8.cell (p := ⟨w.heap.size, 3, none⟩) (by simp)).trans (show (w.alloc (.cells #[.int .i64 i, .int .i64 1, .string t, .string s0] 33)).cell? ⟨w.heap.size, 3, none⟩ = some (.string s0) from by simp)
    have HBM := hide hb8
    clear hb8
    go_wp2_with fail
    refine (kBehind_any i 1 t s0 0 A Z _ hi0 hi1 (by omega) (by omega) htz hs0 (by omega) (by omega) (by omega)).mono ?_
    rintro e w10 ⟨rfl, hb10⟩
    have HB10 := hide ((unhide HBM).trans (hb10.mono hz8))
    have hz10 := Nat.le_trans hz8 hb10.size
    clear hb10 HBM x0 x1 x2 x3
    have HT1 : Hid (q.size = 2 * M.bz (M.bytesOf (behindL i t 0 A Z)) 1) := by rw [(unhide HF).2.1, ← G1.out]; exact unhide hqz
    have HT0 := hide (unhide HF).1
    clear HF
    generalize M.bytesOf (behindL i t 0 A Z) = T at *
    go_wp2_with fail
    refine (kAnswers_any T q _ (unhide HT0) (unhide HT1)).mono ?_
    rintro e w11 ⟨rfl, hb11⟩
    have HB11 := hide ((unhide HB10).trans (hb11.mono hz10))
    have hz11 := Nat.le_trans hz10 hb11.size
    clear hb11 HB10
    rw [HW.out, HNV.out]
    go_wp2_with fail
    refine (kSigned_w _ _ (unhide hvA) (unhide HB11) hz11).mono ?_
    rintro e w12 ⟨rfl, hb12, hz12⟩
    go_wp2
    go_ret
    exact ⟨by simp, below_in hb12⟩
  · have r1 : (2 : Int) ≤ (V.size : Int) := by omega
    have r2 := HV0.out
    have r3 := HV2.out
    go_wp2_with fail
    go_region_held3 (fun _ => True) (first | trivial | (intros; trivial)) ((first | (go_at_call 29; refine (kSigned_w _ _ (by first | exact unhide vx | exact unhide vy) (by first | exact hbM | exact (unhide HB4).drew) (by first | exact hzM | exact hz4)).mono ?_; rintro e w5 ⟨rfl, hbM, hzM⟩) | (go_at_call 28; refine (kDoes_any 6 lx ly sh _ (unhide vx) (unhide vy) (by omega) (by omega)).mono ?_; rintro e w' ⟨rfl, rfl⟩)))
    clear r1 r2 r3
    have hvd := hide (doesV_val 6 sh (unhide vx) (unhide vy))
    have HW := hide ((unhide HBQ) 6 x sh (by omega) (by omega) (by omega) (by unfold M.okOp; simp; omega))
    have HF := hide (behind_facts i t 6 x sh htm (by omega) (by omega) (by omega) (by unfold M.okOp; simp; omega))
    have HNV : Hid (M.nodeVal l 6 x sh = doesV 6 lx ly sh) := (unhide HDO) 6 x sh sh (by omega) (by omega) rfl (fun h => absurd h (by omega)) (fun _ => rfl)
    generalize doesV 6 lx ly sh = want at *
    have x0 := (hbM.cell (p := ⟨w.heap.size, 0, none⟩) (by simp)).trans (show (w.alloc (.cells #[.int .i64 i, .int .i64 1, .string t, .string s0] 33)).cell? ⟨w.heap.size, 0, none⟩ = some (.int .i64 i) from by simp)
    have x1 := (hbM.cell (p := ⟨w.heap.size, 1, none⟩) (by simp)).trans (show (w.alloc (.cells #[.int .i64 i, .int .i64 1, .string t, .string s0] 33)).cell? ⟨w.heap.size, 1, none⟩ = some (.int .i64 1) from by simp)
    have x2 := (hbM.cell (p := ⟨w.heap.size, 2, none⟩) (by simp)).trans (show (w.alloc (.cells #[.int .i64 i, .int .i64 1, .string t, .string s0] 33)).cell? ⟨w.heap.size, 2, none⟩ = some (.string t) from by simp)
    have x3 := (hbM.cell (p := ⟨w.heap.size, 3, none⟩) (by simp)).trans (show (w.alloc (.cells #[.int .i64 i, .int .i64 1, .string t, .string s0] 33)).cell? ⟨w.heap.size, 3, none⟩ = some (.string s0) from by simp)
    have HBM := hide hbM
    clear hbM
    go_wp2_with fail
    refine (kBehind_any i 1 t s0 6 x sh _ hi0 hi1 (by omega) (by omega) htz hs0 (by omega) (by omega) (by omega)).mono ?_
    rintro e w10 ⟨rfl, hb10⟩
    have HB10 := hide ((unhide HBM).trans (hb10.mono hzM))
    have hz10 := Nat.le_trans hzM hb10.size
    clear hb10 HBM x0 x1 x2 x3
    have HT1 : Hid (q.size = 2 * M.bz (M.bytesOf (behindL i t 6 x sh)) 1) := by rw [(unhide HF).2.1, ← G1.out]; exact unhide hqz
    have HT0 := hide (unhide HF).1
    clear HF
    generalize M.bytesOf (behindL i t 6 x sh) = T at *
    go_wp2_with fail
    refine (kAnswers_any T q _ (unhide HT0) (unhide HT1)).mono ?_
    rintro e w11 ⟨rfl, hb11⟩
    have HB11 := hide ((unhide HB10).trans (hb11.mono hz10))
    have hz11 := Nat.le_trans hz10 hb11.size
    clear hb11 HB10
    rw [HW.out, HNV.out]
    go_wp2_with fail
    refine (kSigned_w _ _ (unhide hvd) (unhide HB11) hz11).mono ?_
    rintro e w12 ⟨rfl, hb12, hz12⟩
    go_wp2
    go_ret
    exact ⟨by simp, below_in hb12⟩
  · have r1 : (2 : Int) ≤ (V.size : Int) := by omega
    have r2 := HV0.out
    have r3 := HV2.out
    go_wp2_with fail
    go_region_held3 (fun _ => True) (first | trivial | (intros; trivial)) ((first | (go_at_call 29; refine (kSigned_w _ _ (by first | exact unhide vx | exact unhide vy) (by first | exact hbM | exact (unhide HB4).drew) (by first | exact hzM | exact hz4)).mono ?_; rintro e w5 ⟨rfl, hbM, hzM⟩) | (go_at_call 28; refine (kDoes_any 7 lx ly sh _ (unhide vx) (unhide vy) (by omega) (by omega)).mono ?_; rintro e w' ⟨rfl, rfl⟩)))
    clear r1 r2 r3
    have hvd := hide (doesV_val 7 sh (unhide vx) (unhide vy))
    have HW := hide ((unhide HBQ) 7 x 0 (by omega) (by omega) (by omega) (by unfold M.okOp; simp; omega))
    have HF := hide (behind_facts i t 7 x 0 htm (by omega) (by omega) (by omega) (by unfold M.okOp; simp; omega))
    have HNV : Hid (M.nodeVal l 7 x 0 = doesV 7 lx ly sh) := (unhide HDO) 7 x 0 sh (by omega) (by omega) rfl (fun h => absurd h (by omega)) (fun h => absurd h (by omega))
    generalize doesV 7 lx ly sh = want at *
    have x0 := (hbM.cell (p := ⟨w.heap.size, 0, none⟩) (by simp)).trans (show (w.alloc (.cells #[.int .i64 i, .int .i64 1, .string t, .string s0] 33)).cell? ⟨w.heap.size, 0, none⟩ = some (.int .i64 i) from by simp)
    have x1 := (hbM.cell (p := ⟨w.heap.size, 1, none⟩) (by simp)).trans (show (w.alloc (.cells #[.int .i64 i, .int .i64 1, .string t, .string s0] 33)).cell? ⟨w.heap.size, 1, none⟩ = some (.int .i64 1) from by simp)
    have x2 := (hbM.cell (p := ⟨w.heap.size, 2, none⟩) (by simp)).trans (show (w.alloc (.cells #[.int .i64 i, .int .i64 1, .string t, .string s0] 33)).cell? ⟨w.heap.size, 2, none⟩ = some (.string t) from by simp)
    have x3 := (hbM.cell (p := ⟨w.heap.size, 3, none⟩) (by simp)).trans (show (w.alloc (.cells #[.int .i64 i, .int .i64 1, .string t, .string s0] 33)).cell? ⟨w.heap.size, 3, none⟩ = some (.string s0) from by simp)
    have HBM := hide hbM
    clear hbM
    go_wp2_with fail
    refine (kBehind_any i 1 t s0 7 x 0 _ hi0 hi1 (by omega) (by omega) htz hs0 (by omega) (by omega) (by omega)).mono ?_
    rintro e w10 ⟨rfl, hb10⟩
    have HB10 := hide ((unhide HBM).trans (hb10.mono hzM))
    have hz10 := Nat.le_trans hzM hb10.size
    clear hb10 HBM x0 x1 x2 x3
    have HT1 : Hid (q.size = 2 * M.bz (M.bytesOf (behindL i t 7 x 0)) 1) := by rw [(unhide HF).2.1, ← G1.out]; exact unhide hqz
    have HT0 := hide (unhide HF).1
    clear HF
    generalize M.bytesOf (behindL i t 7 x 0) = T at *
    go_wp2_with fail
    refine (kAnswers_any T q _ (unhide HT0) (unhide HT1)).mono ?_
    rintro e w11 ⟨rfl, hb11⟩
    have HB11 := hide ((unhide HB10).trans (hb11.mono hz10))
    have hz11 := Nat.le_trans hz10 hb11.size
    clear hb11 HB10
    rw [HW.out, HNV.out]
    go_wp2_with fail
    refine (kSigned_w _ _ (unhide hvd) (unhide HB11) hz11).mono ?_
    rintro e w12 ⟨rfl, hb12, hz12⟩
    go_wp2
    go_ret
    exact ⟨by simp, below_in hb12⟩
  · have e0 : ((k : Int) == 0) = false := beq_eq_false_iff_ne.2 (by omega)
    have e6 : ((k : Int) == 6) = false := beq_eq_false_iff_ne.2 (by omega)
    have e7 : ((k : Int) == 7) = false := beq_eq_false_iff_ne.2 (by omega)
    have r1 : (2 : Int) ≤ (V.size : Int) := by omega
    have r2 := HV0.out
    have r3 := HV2.out
    go_wp2_with fail
    go_region_held3 (fun _ => True) (first | trivial | (intros; trivial)) ((first | (go_at_call 29; refine (kSigned_w _ _ (by first | exact unhide vx | exact unhide vy) (by first | exact hbM | exact (unhide HB4).drew) (by first | exact hzM | exact hz4)).mono ?_; rintro e w5 ⟨rfl, hbM, hzM⟩) | (go_at_call 28; refine (kDoes_any k lx ly sh _ (unhide vx) (unhide vy) (by omega) (by omega)).mono ?_; rintro e w' ⟨rfl, rfl⟩)))
    clear r1 r2 r3
    have hvd := hide (doesV_val k sh (unhide vx) (unhide vy))
    have HW := hide ((unhide HBQ) k x y (by omega) (by omega) (by omega) (by unfold M.okOp; rw [if_neg (by omega), if_pos (by omega)]; simp; omega))
    have HF := hide (behind_facts i t k x y htm (by omega) (by omega) (by omega) (by unfold M.okOp; rw [if_neg (by omega), if_pos (by omega)]; simp; omega))
    have HNV : Hid (M.nodeVal l k x y = doesV k lx ly sh) := (unhide HDO) k x y sh (by omega) (by omega) rfl (fun _ => rfl) (fun h => absurd h (by omega))
    generalize doesV k lx ly sh = want at *
    have x0 := (hbM.cell (p := ⟨w.heap.size, 0, none⟩) (by simp)).trans (show (w.alloc (.cells #[.int .i64 i, .int .i64 1, .string t, .string s0] 33)).cell? ⟨w.heap.size, 0, none⟩ = some (.int .i64 i) from by simp)
    have x1 := (hbM.cell (p := ⟨w.heap.size, 1, none⟩) (by simp)).trans (show (w.alloc (.cells #[.int .i64 i, .int .i64 1, .string t, .string s0] 33)).cell? ⟨w.heap.size, 1, none⟩ = some (.int .i64 1) from by simp)
    have x2 := (hbM.cell (p := ⟨w.heap.size, 2, none⟩) (by simp)).trans (show (w.alloc (.cells #[.int .i64 i, .int .i64 1, .string t, .string s0] 33)).cell? ⟨w.heap.size, 2, none⟩ = some (.string t) from by simp)
    have x3 := (hbM.cell (p := ⟨w.heap.size, 3, none⟩) (by simp)).trans (show (w.alloc (.cells #[.int .i64 i, .int .i64 1, .string t, .string s0] 33)).cell? ⟨w.heap.size, 3, none⟩ = some (.string s0) from by simp)
    have HBM := hide hbM
    clear hbM
    go_wp2_with fail
    refine (kBehind_any i 1 t s0 k x y _ hi0 hi1 (by omega) (by omega) htz hs0 (by omega) (by omega) (by omega)).mono ?_
    rintro e w10 ⟨rfl, hb10⟩
    have HB10 := hide ((unhide HBM).trans (hb10.mono hzM))
    have hz10 := Nat.le_trans hzM hb10.size
    clear hb10 HBM x0 x1 x2 x3
    have HT1 : Hid (q.size = 2 * M.bz (M.bytesOf (behindL i t k x y)) 1) := by rw [(unhide HF).2.1, ← G1.out]; exact unhide hqz
    have HT0 := hide (unhide HF).1
    clear HF
    generalize M.bytesOf (behindL i t k x y) = T at *
    go_wp2_with fail
    refine (kAnswers_any T q _ (unhide HT0) (unhide HT1)).mono ?_
    rintro e w11 ⟨rfl, hb11⟩
    have HB11 := hide ((unhide HB10).trans (hb11.mono hz10))
    have hz11 := Nat.le_trans hz10 hb11.size
    clear hb11 HB10
    rw [HW.out, HNV.out]
    go_wp2_with fail
    refine (kSigned_w _ _ (unhide hvd) (unhide HB11) hz11).mono ?_
    rintro e w12 ⟨rfl, hb12, hz12⟩
    go_wp2
    go_ret
    exact ⟨by simp, below_in hb12⟩
end Go.Proofs.Ytjfmiomopfjecaa

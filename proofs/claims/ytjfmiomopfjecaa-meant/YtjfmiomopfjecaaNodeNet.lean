/- slotskeep's Net.image. -/
import Derived.Test.YtjfmiomopfjecaaNodeImage
namespace Go.Proofs.Ytjfmiomopfjecaa
open Go.RowKit

theorem kOne_at {B : Nat} {w0 : World} (v : Nat) (W : World) (h1 : v ≤ 255) (hW : Below B w0 W) (hB : B ≤ W.heap.size) :
    Calls Try.prog 24 #[.int .i64 v] W fun e w' => e = .returned (.string (M.bytesOf [v])) ∧ Below B w0 w' ∧ B ≤ w'.heap.size :=
  (kOne_any v W h1).mono fun _ _ ⟨a, b⟩ => ⟨a, hW.trans (b.mono hB), Nat.le_trans hB b.size⟩
theorem below_in {w w1 : World} {o : Obj} (h : Below (w.heap.size + 1) (w.alloc o) w1) : Below w.heap.size w w1 :=
  ((Below.refl _ _).alloc (Nat.le_refl _) o).trans (h.mono (by omega))
def inN (i : Int) : Nat := 1 + M.pk i 4
theorem inN_bd (i : Int) : 1 ≤ inN i ∧ inN i ≤ 4 := by
  have := M.pk_lt i 4 (by omega)
  unfold inN
  omega
def outsL (n m : Nat) (s : ByteArray) (k : Nat) : List Nat := (List.range k).map fun j => M.bz s j % (n + m)
theorem outsL_length (n m : Nat) (s : ByteArray) (k : Nat) : (outsL n m s k).length = k := by simp [outsL]
theorem outsL_succ (n m : Nat) (s : ByteArray) (k : Nat) : outsL n m s (k + 1) = outsL n m s k ++ [M.bz s k % (n + m)] := by
  unfold outsL; rw [List.range_succ, List.map_append]; rfl
theorem outsL_all (n m : Nat) (s : ByteArray) (k : Nat) : M.AllB (outsL n m s k) := by
  intro x hx
  simp only [outsL, List.mem_map] at hx
  obtain ⟨i, _, rfl⟩ := hx
  have := M.bz_lt s i
  have : M.bz s i % (n + m) ≤ M.bz s i := Nat.mod_le _ _
  omega
theorem outsL_getD (n m : Nat) (s : ByteArray) (k j : Nat) (h : j < k) : (outsL n m s k).getD j 0 = M.bz s j % (n + m) := by simp [outsL, h]
/-- how many nodes a text gives -/
def nodesN (t : ByteArray) : Nat := (fstT t 72).size / 3
theorem nodesN_le (t : ByteArray) : nodesN t ≤ 24 := by
  have := fstT_size t 72
  unfold nodesN
  omega
def imageL (i o : Int) (t s : ByteArray) : List Nat := M.imgL (inN i) (nodesN t) (inN o) (M.nodesL (fstT t 72) (inN i) (nodesN t)) (outsL (inN i) (nodesN t) s (inN o))

theorem four (a b c d : Nat) : M.bytesOf [a] ++ M.bytesOf [b] ++ M.bytesOf [c] ++ M.bytesOf [d] = M.bytesOf [a, b, c, d] := by
  rw [M.bytesOf_append, M.bytesOf_append, M.bytesOf_append]; rfl
theorem em_bytes : (⟨#[77]⟩ : ByteArray) = M.bytesOf [77] := rfl
theorem cut3 (t : ByteArray) (k : Nat) (h : 3 * k + 3 ≤ t.size) : (t.extract (3 * k) (3 * k + 3)).size = 3 ∧ M.bz (t.extract (3 * k) (3 * k + 3)) 0 = M.bz t (3 * k) ∧ M.bz (t.extract (3 * k) (3 * k + 3)) 1 = M.bz t (3 * k + 1) ∧ M.bz (t.extract (3 * k) (3 * k + 3)) 2 = M.bz t (3 * k + 2) := by
  have e : t.extract (3 * k) (3 * k + 3) = M.bytesOf [M.bz t (3 * k), M.bz t (3 * k + 1), M.bz t (3 * k + 2)] := by
    conv => lhs; rw [M.bytesOf_bz t, M.bytesOf_extract]
    congr 1
    have h0 : 3 * k < t.size := by omega
    have h1 : 3 * k + 1 < t.size := by omega
    have h2 : 3 * k + 2 < t.size := by omega
    apply List.ext_getElem?
    intro i
    rw [show 3 * k + 3 - 3 * k = 3 from by omega, List.getElem?_take, List.getElem?_drop]
    match i with
    | 0 => simp [h0]
    | 1 => simp [h1]
    | 2 => simp [h2]
    | i + 3 => rw [if_neg (by omega)]; simp
  have ha : M.AllB [M.bz t (3 * k), M.bz t (3 * k + 1), M.bz t (3 * k + 2)] := by
    intro x hx
    have := M.bz_lt t (3 * k)
    have := M.bz_lt t (3 * k + 1)
    have := M.bz_lt t (3 * k + 2)
    simp at hx
    omega
  rw [e, M.bytesOf_size, M.bz_bytesOf ha, M.bz_bytesOf ha, M.bz_bytesOf ha]
  exact ⟨rfl, rfl, rfl, rfl⟩

set_option maxHeartbeats 1600000 in
theorem kImage_any (i0 o : Int) (t s : ByteArray) (w : World) (hi0 : -9223372036854775808 ≤ i0) (hi1 : i0 ≤ 9223372036854775807) (ho0 : -9223372036854775808 ≤ o) (ho1 : o ≤ 9223372036854775807) (ht : t.size ≤ maxLen) (hs : s.size ≤ maxLen) :
    Calls Try.prog 22 #[.agg #[.int .i64 i0, .int .i64 o, .string t, .string s]] w fun e w' => e = .returned (.string (M.bytesOf (imageL i0 o t s))) ∧ Below w.heap.size w w' := by
  have bi := inN_bd i0
  have bo := inN_bd o
  have bm := nodesN_le t
  have HFIN : Hid (imageL i0 o t s = M.imgL (inN i0) (nodesN t) (inN o) (M.nodesL (fstT t 72) (inN i0) (nodesN t)) (outsL (inN i0) (nodesN t) s (inN o))) := rfl
  have HIN : Hid ((1 : Int) + (M.pk i0 4 : Int) = (inN i0 : Int)) := by show _ = _; unfold inN; omega
  have HON : Hid ((1 : Int) + (M.pk o 4 : Int) = (inN o : Int)) := by show _ = _; unfold inN; omega
  have HMN : Hid (((fstT t 72).size : Int) / 3 = (nodesN t : Int)) := by show _ = _; unfold nodesN; omega
  have hm3 : 3 * nodesN t ≤ (fstT t 72).size := by unfold nodesN; omega
  have hu : (fstT t 72).size ≤ 72 := by have := fstT_size t 72; omega
  have hp := M.pk_lt i0 4 (by omega)
  have hq := M.pk_lt o 4 (by omega)
  have hos := one_size
  go_enter Try.func22, Try.ntmps22
  go_wp2_with fail
  refine (kPick_any i0 4 _ hi0 hi1 (by omega) (by omega)).mono ?_
  rintro e w' ⟨rfl, rfl⟩
  go_wp2_with fail
  refine (kPick_any o 4 _ ho0 ho1 (by omega) (by omega)).mono ?_
  rintro e w' ⟨rfl, rfl⟩
  rw [HIN.out]
  go_wp2_with fail
  refine (kFirst_any t 72 _ ht (by omega)).mono ?_
  rintro e w' ⟨rfl, rfl⟩
  rw [HON.out]
  generalize fstT t 72 = u at *
  generalize inN i0 = n at *
  generalize inN o = c at *
  generalize nodesN t = m at *
  go_wp2_with fail
  refine (kOne_at n _ (by omega) (Below.refl (w.heap.size + 1) _) (by simp)).mono ?_
  rintro e w1 ⟨rfl, hb1, hz1⟩
  rw [HMN.out]
  go_wp2_with fail
  refine (kOne_at m _ (by omega) hb1 hz1).mono ?_
  rintro e w2 ⟨rfl, hb2, hz2⟩
  clear hb1
  go_wp2_with fail
  refine (kOne_at c _ (by omega) hb2 hz2).mono ?_
  rintro e w3 ⟨rfl, hb3, hz3⟩
  clear hb2
  have H0 : Hid (({ data := #[77] } : ByteArray) ++ M.bytesOf [n] ++ M.bytesOf [m] ++ M.bytesOf [c] = M.bytesOf ([77, n, m, c] ++ M.nodesL u n 0)) := by
    rw [em_bytes, four]; rfl
  have HB3 := hide hb3
  clear hb3
  go_wp2_with fail
  go_loopw [7, 8] (fun v i wr => ∃ (k : Nat) (x : ByteArray), k ≤ m ∧ i = .int .i64 k ∧ v = .string x ∧ Hid (x = M.bytesOf ([77, n, m, c] ++ M.nodesL u n k)) ∧ x.size ≤ 4 + 3 * k ∧ Below (w.heap.size + 1) (w.alloc (.cells #[.int .i64 i0, .int .i64 o, .string t, .string s] 33)) wr ∧ w.heap.size + 1 ≤ wr.heap.size) (fun _ i _ => m - (intOf i).toNat)
  case atStart => exact ⟨0, _, by omega, rfl, rfl, H0, by rw [H0.out, M.bytesOf_size]; exact Nat.le_refl _, unhide HB3, hz3⟩
  case round =>
    clear H0 HB3 hz1 hz2 hz3
    obtain ⟨k, x, hk, rfl, rfl, hx, hxs, hbel, hsz⟩ := hrel
    have hc3 : (w.alloc (.cells #[.int .i64 i0, .int .i64 o, .string t, .string s] 33)).cell? ⟨w.heap.size, 3, none⟩ = some (.string s) := by simp
    have hb3 : wr.cell? ⟨w.heap.size, 3, none⟩ = some (.string s) := (hbel.cell (p := ⟨w.heap.size, 3, none⟩) (by simp)).trans hc3
    clear hc3
    have HB := hide hbel
    clear hbel
    by_cases hlt : k < m
    · have hcut := cut3 u k (by omega)
      have HS : Hid (M.nodesL u n (k + 1) = M.nodesL u n k ++ M.nodeL (M.bz u (3 * k)) (M.bz u (3 * k + 1)) (M.bz u (3 * k + 2)) (n + k)) := rfl
      have HC := hide hcut
      clear hcut hb3
      go_wp2_with fail
      generalize u.extract (3 * k) (3 * k + 3) = cut at *
      rw [show ((n : Int) + (k : Int)) = ((n + k : Nat) : Int) from by omega]
      refine (kNode_any cut (n + k) _ HC.out.1 (by omega) (by omega)).mono ?_
      rintro e w4 ⟨rfl, hb4⟩
      have HL := hide (M.nodeL_length (M.bz u (3 * k)) (M.bz u (3 * k + 1)) (M.bz u (3 * k + 2)) (n + k))
      rw [HC.out.2.1, HC.out.2.2.1, HC.out.2.2.2]
      have HX : Hid (x ++ M.bytesOf (M.nodeL (M.bz u (3 * k)) (M.bz u (3 * k + 1)) (M.bz u (3 * k + 2)) (n + k)) = M.bytesOf ([77, n, m, c] ++ M.nodesL u n (k + 1))) := by
        rw [HS.out, hx.out, M.bytesOf_append, List.append_assoc]; rfl
      have hrs : (M.bytesOf (M.nodeL (M.bz u (3 * k)) (M.bz u (3 * k + 1)) (M.bz u (3 * k + 2)) (n + k))).size ≤ 3 := by rw [M.bytesOf_size, HL.out]; omega
      have HZ : Hid ((M.bytesOf ([77, n, m, c] ++ M.nodesL u n (k + 1))).size ≤ 4 + 3 * (k + 1)) := by
        rw [M.bytesOf_size, List.length_append, M.nodesL_length]; show 4 + _ ≤ _; omega
      have HB4 := hide ((unhide HB).trans (hb4.mono hsz))
      have hsz4 := Nat.le_trans hsz hb4.size
      clear hb4 HC HL HS
      generalize M.bytesOf (M.nodeL (M.bz u (3 * k)) (M.bz u (3 * k + 1)) (M.bz u (3 * k + 2)) (n + k)) = r at *
      go_wp2
      go_roundw
      case rel => exact ⟨k + 1, x ++ r, by omega, by go_num, rfl, HX, by rw [HX.out]; exact HZ.out, unhide HB4, hsz4⟩
      case measure => simp [intOf]; omega
    · have hkm : k = m := by omega
      subst hkm
      clear hlt
      go_wp2_with fail
      refine (kFill_any s c _ hs (by omega)).mono ?_
      rintro e w5 ⟨rfl, rfl⟩
      have HFa : Hid (∀ j, j < c → M.bz (M.bytesOf (M.fillL s c)) j = M.bz s j) := fun j hj => by rw [M.bz_bytesOf (M.fillL_all _ _), M.fillL_getD _ _ _ hj]
      have hfs : (M.bytesOf (M.fillL s c)).size = c := by rw [M.bytesOf_size, M.fillL_length]
      generalize M.bytesOf (M.fillL s c) = f at *
      have hf1 : c ≤ f.size := by omega
      have hf2 : f.size ≤ c := by omega
      clear hfs hb3
      have H1 : Hid (x = M.bytesOf (([77, n, k, c] ++ M.nodesL u n k) ++ outsL n k s 0)) := by rw [hx.out]; show _ = M.bytesOf (_ ++ []); rw [List.append_nil]
      have hx100 : x.size ≤ 76 + 0 := by omega
      go_wp2_with fail
      go_loopw [7, 10] (fun v i wr => ∃ (j : Nat) (x : ByteArray), j ≤ c ∧ i = .int .i64 j ∧ v = .string x ∧ Hid (x = M.bytesOf (([77, n, k, c] ++ M.nodesL u n k) ++ outsL n k s j)) ∧ x.size ≤ 76 + j ∧ Below (w.heap.size + 1) (w.alloc (.cells #[.int .i64 i0, .int .i64 o, .string t, .string s] 33)) wr ∧ w.heap.size + 1 ≤ wr.heap.size) (fun _ i _ => c - (intOf i).toNat)
      case atStart => exact ⟨0, x, by omega, rfl, rfl, H1, hx100, unhide HB, hsz⟩
      case round =>
        clear H1 hx100 hxs hx HB hsz
        obtain ⟨j, x, hj, rfl, rfl, hx, hxs, hbel, hsz⟩ := hrel
        have HB := hide hbel
        clear hbel
        by_cases hlt : j < c
        · have pj : j < f.size := by omega
          have qj : (f[j]'pj).toNat < 256 := UInt8.toNat_lt _
          have HFj : Hid ((f[j]'pj).toNat = M.bz s j) := by show _ = _; rw [M.bz_at f j pj, HFa.out j hlt]
          have hmd := emod_bd (f[j]'pj).toNat (n + k) qj
          have HMd := hide (show ((f[j]'pj).toNat : Int) % ((n : Int) + (k : Int)) = (((f[j]'pj).toNat % (n + k) : Nat) : Int) from by rw [Int.natCast_emod, Int.natCast_add])
          have hle : (f[j]'pj).toNat % (n + k) ≤ (f[j]'pj).toNat := Nat.mod_le _ _
          have HS := hide (outsL_succ n k s j)
          go_wp2_with fail
          rw [HMd.out]
          refine (kOne_at _ _ (by omega) (unhide HB) hsz).mono ?_
          rintro e w6 ⟨rfl, hb6, hz6⟩
          rw [HFj.out]
          have HX : Hid (x ++ M.bytesOf [M.bz s j % (n + k)] = M.bytesOf (([77, n, k, c] ++ M.nodesL u n k) ++ outsL n k s (j + 1))) := by
            rw [HS.out, hx.out, M.bytesOf_append, List.append_assoc]; rfl
          have HZ : Hid ((M.bytesOf (([77, n, k, c] ++ M.nodesL u n k) ++ outsL n k s (j + 1))).size ≤ 76 + (j + 1)) := by
            rw [M.bytesOf_size, List.length_append, List.length_append, M.nodesL_length, outsL_length]; show 4 + _ + _ ≤ _; omega
          have HB6 := hide hb6
          clear hb6
          go_wp2
          go_roundw
          case rel => exact ⟨j + 1, _, by omega, by go_num, rfl, HX, by rw [HX.out]; exact HZ.out, unhide HB6, hz6⟩
          case measure => simp [intOf]; omega
        · have hjc : j = c := by omega
          subst hjc
          have HE : Hid (x = M.bytesOf (imageL i0 o t s)) := by rw [HFIN.out, hx.out]; unfold M.imgL; rw [List.append_assoc]; rfl
          go_wp2
          go_ret
          exact ⟨ret_string HE.out, below_in (unhide HB)⟩
end Go.Proofs.Ytjfmiomopfjecaa

/- Texts laid together: NetRefEval, NetCode2, NetSound, NetParse, NetEval, DevPlan, DevInv. -/
import Derived.Test.YtjfmiomopfjecabGreatWb
import Derived.Test.YtjfmiomopfjecabGreatWa
/- The document's Check and Eval. -/
namespace Go.Proofs.YtjfmiomopfjecabGreat
open Go.RowKit

def checkNum (s : ByteArray) : Int := if M.isImage s then 0 else 1
theorem refEval_no (s inp : ByteArray) (w : World) (hs : s.size ≤ maxLen) (h : M.isImage s = false) :
    Calls Tryz.prog 122 #[.string s, .string inp] w fun e w' => e = .returned (.tuple #[.string ⟨#[]⟩, .int .i64 1]) ∧ Below w.heap.size w w' := by
  go_enter Tryz.func122, Tryz.ntmps122
  go_wp2_with fail
  refine (refImage_any s _ hs).mono ?_
  rintro e w' ⟨rfl, rfl⟩
  rw [h]
  clear h
  go_wp2
  go_ret2
  exact ⟨rfl, Below.refl _ _⟩
theorem image_head {s : ByteArray} (h : M.isImage s = true) : M.headOk s = true := by
  unfold M.isImage at h
  cases e : M.headOk s
  · rw [e] at h; exact h
  · rfl
theorem image_nodes {s : ByteArray} (h : M.isImage s = true) {k : Nat} (hk : k < M.bz s 2) : M.okOp (M.bz s (4 + 3 * k)) (M.bz s (5 + 3 * k)) (M.bz s (6 + 3 * k)) (M.bz s 1 + k) = true := by
  unfold M.isImage at h
  rw [Bool.and_eq_true, Bool.and_eq_true] at h
  exact M.all_range_at (p := fun i => M.okOp (M.bz s (4 + 3 * i)) (M.bz s (5 + 3 * i)) (M.bz s (6 + 3 * i)) (M.bz s 1 + i)) h.2.1 hk
theorem refEval_input (s inp : ByteArray) (w : World) (hs : s.size ≤ maxLen) (hi : inp.size ≤ maxLen) (h : M.isImage s = true) (hne : inp.size ≠ 2 * M.bz s 1) :
    Calls Tryz.prog 122 #[.string s, .string inp] w fun e w' => e = .returned (.tuple #[.string ⟨#[]⟩, .int .i64 2]) ∧ Below w.heap.size w w' := by
  obtain ⟨h0, h1, h2, h3, h4, h5, h6⟩ := M.headOk_eq (image_head h)
  have hs3 : 4 ≤ s.size := by omega
  have hib : inp.size ≤ 9223372036854775807 := by unfold maxLen at hi; omega
  clear h0 h6
  go_enter Tryz.func122, Tryz.ntmps122
  go_wp2_with fail
  refine (refImage_any s _ hs).mono ?_
  rintro e w' ⟨rfl, rfl⟩
  rw [h]
  clear h
  go_wp2_with fail
  refine (refNumber_in s 1 _ hs (by omega) (by omega)).mono ?_
  rintro e w' ⟨rfl, rfl⟩
  rw [show (1 : Int).toNat = 1 from rfl]
  go_wp2_with fail
  refine (refNumber_in s 2 _ hs (by omega) (by omega)).mono ?_
  rintro e w' ⟨rfl, rfl⟩
  rw [show (2 : Int).toNat = 2 from rfl]
  generalize M.bz s 1 = n at *
  generalize M.bz s 2 = m at *
  have hb : ((inp.size : Int) != 2 * (n : Int)) = true := by rw [bne_iff_ne]; omega
  clear hne
  go_wp2
  go_ret2
  exact ⟨rfl, Below.refl _ _⟩

set_option maxHeartbeats 1000000 in
theorem refEval_yes (s inp : ByteArray) (w : World) (hs : s.size ≤ maxLen) (h : M.isImage s = true) (heq : inp.size = 2 * M.bz s 1) :
    Calls Tryz.prog 122 #[.string s, .string inp] w fun e w' => e = .returned (.tuple #[.string (M.evalOut s inp), .int .i64 0]) ∧ Below w.heap.size w w' := by
  obtain ⟨h0, h1, h2, h3, h4, h5, h6⟩ := M.headOk_eq (image_head h)
  have HOP : Hid (∀ k, k < M.bz s 2 → M.okOp (M.bz s (4 + 3 * k)) (M.bz s (5 + 3 * k)) (M.bz s (6 + 3 * k)) (M.bz s 1 + k) = true) := fun k hk => image_nodes h hk
  have HR0 : Hid (M.insOf inp (M.bz s 1) = M.runTo s inp 0) := rfl
  have HFIN : Hid (M.outTo (M.runTo s inp (M.bz s 2)) s (4 + 3 * M.bz s 2) (M.bz s 3) = M.evalOut s inp) := rfl
  have HRL := hide (fun k => M.runTo_length s inp k)
  have HL : s.size ≤ 80 := by omega
  have hlo : 4 + 3 * M.bz s 2 + M.bz s 3 ≤ s.size := by omega
  have hhi : s.size ≤ 4 + 3 * M.bz s 2 + M.bz s 3 := by omega
  have hil : inp.size ≤ 2 * M.bz s 1 := by omega
  have hih : 2 * M.bz s 1 ≤ inp.size := by omega
  have hi8 : inp.size ≤ maxLen := by unfold maxLen; omega
  have HHd := hide h
  clear h0 h6 heq
  go_enter Tryz.func122, Tryz.ntmps122
  go_wp2_with fail
  refine (refImage_any s _ hs).mono ?_
  rintro e w' ⟨rfl, rfl⟩
  rw [h]
  clear h
  go_wp2_with fail
  refine (refNumber_in s 1 _ hs (by omega) (by omega)).mono ?_
  rintro e w' ⟨rfl, rfl⟩
  rw [show (1 : Int).toNat = 1 from rfl]
  go_wp2_with fail
  refine (refNumber_in s 2 _ hs (by omega) (by omega)).mono ?_
  rintro e w' ⟨rfl, rfl⟩
  rw [show (2 : Int).toNat = 2 from rfl]
  generalize M.bz s 1 = n at *
  generalize M.bz s 2 = m at *
  generalize M.bz s 3 = c at *
  have hb : ((inp.size : Int) != 2 * (n : Int)) = false := by rw [bne_eq_false_iff_eq]; omega
  go_wp2_with fail
  clear hb
  go_loopw [9, 10] (fun v i wr => ∃ k : Nat, k ≤ n ∧ i = .int .i64 k ∧ wr.ownsRow w.heap.size 3 1 v (M.insOf inp k).length (intCells (M.insOf inp k)) ∧ Below w.heap.size w wr) (fun _ i _ => n - (intOf i).toNat)
  case atStart => exact ⟨0, by omega, rfl, World.ownsRow_nil _ _ _ _, Below.refl _ _⟩
  case round =>
    obtain ⟨k, hk, rfl, hown, hbel⟩ := hrel
    by_cases hlt : k < n
    · have b1 := M.bz_lt inp (2 * k)
      have b2 := M.bz_lt inp (2 * k + 1)
      have hsz := hbel.size
      have hl := M.insOf_length inp k
      have HS := hide (M.insOf_succ inp k)
      have HO := hide hown
      have HB := hide hbel
      clear hown hbel
      go_wp2_with fail
      refine (refWord_any inp _ _ hi8 (by omega) (by omega)).mono ?_
      rintro e w' ⟨rfl, rfl⟩
      rw [show (2 * (k : Int)).toNat = 2 * k from by omega]
      go_wp2_with fail
      refine (refSigned_any _ _ (by omega) (by omega)).mono ?_
      rintro e w' ⟨rfl, rfl⟩
      have HL2 := hide hl
      clear hl
      generalize hx : M.wordVal ((M.bz inp (2 * k) : Int) * 256 + M.bz inp (2 * k + 1)) = x at *
      have HX := hide hx
      clear hx
      go_wp2_with (at_builtin; (refine append_int _ rfl (.tmp 41) (.tmp 43) rfl w.heap.size u9 (M.insOf inp k) x rfl rfl (unhide HO) (by rw [HL2.out]; omega) hsz ?_); intro v' w1 hown1 hbel1 hsz1)
      have HR : Hid (w1.ownsRow w.heap.size 3 1 v' (M.insOf inp (k + 1)).length (intCells (M.insOf inp (k + 1)))) := by rw [HS.out]; exact hown1
      have HB1 := hide (hbel1 _ (unhide HB))
      clear hown1 hbel1
      go_roundw
      case rel => exact ⟨k + 1, by omega, by go_num, unhide HR, unhide HB1⟩
      case measure => simp [intOf]; omega
    · have : k = n := by omega
      subst this
      clear hlt
      rw [HR0.out] at hown
      go_wp2_with fail
      go_loopw [9, 12] (fun v i wr => ∃ k : Nat, k ≤ m ∧ i = .int .i64 k ∧ wr.ownsRow w.heap.size 3 1 v (M.runTo s inp k).length (intCells (M.runTo s inp k)) ∧ Below w.heap.size w wr) (fun _ i _ => m - (intOf i).toNat)
      case atStart => exact ⟨0, by omega, rfl, hown, hbel⟩
      case round =>
        clear hown hbel
        obtain ⟨k, hk, rfl, hown, hbel⟩ := hrel
        have hvals := M.runTo_vals s inp k
        have HV := hide hvals
        have hsz := hbel.size
        have HRow := hide (holdsRow_own hown)
        have HO := hide hown
        have HB := hide hbel
        have HLen := hide (M.runTo_length s inp k)
        clear hown hbel hvals
        by_cases hlt : k < m
        · have b1 := M.bz_lt s (4 + 3 * k)
          have b2 := M.bz_lt s (5 + 3 * k)
          have b3 := M.bz_lt s (6 + 3 * k)
          have HS : Hid (M.runTo s inp (k + 1) = M.runTo s inp k ++ [M.nodeDo (M.bz s (4 + 3 * k)) ((M.runTo s inp k).getD (M.bz s (5 + 3 * k)) 0) ((M.runTo s inp k).getD (M.bz s (6 + 3 * k)) 0) (M.bz s (5 + 3 * k)) (M.bz s (6 + 3 * k))]) := rfl
          have hx := hide ((unhide HV).getD (M.bz s (5 + 3 * k)))
          have hy := hide ((unhide HV).getD (M.bz s (6 + 3 * k)))
          go_wp2_with fail
          refine (refNumber_in s _ _ hs (by omega) (by omega)).mono ?_
          rintro e w' ⟨rfl, rfl⟩
          rw [show (5 + 3 * (k : Int)).toNat = 5 + 3 * k from by omega]
          generalize M.bz s (5 + 3 * k) = a at *
          go_wp2_with fail
          refine (refNumber_in s _ _ hs (by omega) (by omega)).mono ?_
          rintro e w' ⟨rfl, rfl⟩
          rw [show (6 + 3 * (k : Int)).toNat = 6 + 3 * k from by omega]
          generalize M.bz s (6 + 3 * k) = b at *
          go_wp2_with fail
          refine (refNumber_in s _ _ hs (by omega) (by omega)).mono ?_
          rintro e w' ⟨rfl, rfl⟩
          rw [show (4 + 3 * (k : Int)).toNat = 4 + 3 * k from by omega]
          generalize M.bz s (4 + 3 * k) = op at *
          go_wp2_with fail
          refine (refOf_any _ (M.runTo s inp k) a _ (unhide HRow) (by omega)).mono ?_
          rintro e w' ⟨rfl, rfl⟩
          generalize (M.runTo s inp k).getD a 0 = x at *
          go_wp2_with fail
          refine (refOf_any _ (M.runTo s inp k) b _ (unhide HRow) (by omega)).mono ?_
          rintro e w' ⟨rfl, rfl⟩
          generalize (M.runTo s inp k).getD b 0 = y at *
          go_wp2_with fail
          refine (refDone_any op x y a b _ (unhide hx) (unhide hy) (by omega) b2 b3).mono ?_
          rintro e w' ⟨rfl, rfl⟩
          generalize M.nodeDo op x y a b = z at *
          go_wp2_with (at_builtin; (refine append_int _ rfl (.tmp 74) (.tmp 76) rfl w.heap.size u9 (M.runTo s inp k) z rfl rfl (unhide HO) (by rw [HLen.out]; have := M.bz_lt s 1; omega) hsz ?_); intro v' w1 hown1 hbel1 hsz1)
          have HR : Hid (w1.ownsRow w.heap.size 3 1 v' (M.runTo s inp (k + 1)).length (intCells (M.runTo s inp (k + 1)))) := by rw [HS.out]; exact hown1
          have HB1 := hide (hbel1 _ (unhide HB))
          clear hown1 hbel1
          go_roundw
          case rel => exact ⟨k + 1, by omega, by go_num, unhide HR, unhide HB1⟩
          case measure => simp [intOf]; omega
        · have : k = m := by omega
          subst this
          clear hlt
          go_wp2_with fail
          go_loopw [16, 17] (fun v i wr => ∃ (j : Nat) (o : ByteArray), j ≤ c ∧ i = .int .i64 (4 + 3 * k + j : Nat) ∧ v = .string o ∧ Hid (o = M.outTo (M.runTo s inp k) s (4 + 3 * k) j) ∧ o.size ≤ 8 ∧ HoldsRow wr u9 (M.runTo s inp k).length (intCells (M.runTo s inp k)) ∧ Below w.heap.size w wr) (fun _ i _ => s.size - (intOf i).toNat)
          case atStart => exact ⟨0, _, by omega, by go_num, rfl, rfl, by decide, unhide HRow, unhide HB⟩
          case round =>
            clear HO HB HRow
            obtain ⟨j, o, hj, rfl, rfl, ho, ho8, hrow, hbel⟩ := hrel
            have HRow := hide hrow
            have HB := hide hbel
            have hsz := hbel.size
            clear hrow hbel
            by_cases hlt : j < c
            · have b1 := M.bz_lt s (4 + 3 * k + j)
              have HS : Hid (M.outTo (M.runTo s inp k) s (4 + 3 * k) (j + 1) = M.outTo (M.runTo s inp k) s (4 + 3 * k) j ++ M.wordText ((M.runTo s inp k).getD (M.bz s (4 + 3 * k + j)) 0)) := rfl
              have HZ := hide (M.outTo_size (M.runTo s inp k) s (4 + 3 * k) (j + 1))
              have hx := hide ((unhide HV).getD (M.bz s (4 + 3 * k + j)))
              go_wp2_with fail
              refine (refNumber_in s _ _ hs (by omega) (by omega)).mono ?_
              rintro e w' ⟨rfl, rfl⟩
              rw [show (4 + 3 * (k : Int) + (j : Int)).toNat = 4 + 3 * k + j from by omega]
              generalize M.bz s (4 + 3 * k + j) = a at *
              go_wp2_with fail
              refine (refOf_any _ (M.runTo s inp k) a _ (unhide HRow) (by omega)).mono ?_
              rintro e w' ⟨rfl, rfl⟩
              generalize (M.runTo s inp k).getD a 0 = x at *
              go_wp2_with fail
              refine (refBytes_any x _ (unhide hx)).mono ?_
              rintro e w1 ⟨rfl, hb1⟩
              have ht := M.wordText_size x
              generalize M.wordText x = tx at *
              have ht2 : tx.size ≤ 2 := by omega
              clear ht
              have HB1 := hide ((unhide HB).trans (hb1.mono hsz))
              have HR1 := hide ((unhide HRow).mono hb1)
              clear hb1
              have HEQ : Hid (o ++ tx = M.outTo (M.runTo s inp k) s (4 + 3 * k) (j + 1)) := by rw [HS.out, ← ho.out]; rfl
              have HSZ : Hid ((o ++ tx).size ≤ 8) := by rw [HEQ.out, HZ.out]; show _ ≤ _; omega
              go_wp2
              go_roundw
              case rel => exact ⟨j + 1, o ++ tx, by omega, by go_num, rfl, HEQ, unhide HSZ, unhide HR1, unhide HB1⟩
              case measure => simp [intOf]; omega
            · have : j = c := by omega
              subst this
              have HEND : Hid (o = M.evalOut s inp) := by rw [ho.out, ← HFIN.out]; rfl
              go_wp2
              go_ret2
              exact ⟨by rw [HEND.out]; rfl, unhide HB⟩
end Go.Proofs.YtjfmiomopfjecabGreat

/- The program's reading of images: nodes, sound, Parse. -/
namespace Go.Proofs.YtjfmiomopfjecabGreat
open Go.RowKit

theorem infoNode : (Tryz.prog.info? 175).map (fun i => (i.zero, i.size, i.bytes)) = some (some (.agg #[.int .i64 0, .int .i64 0, .int .i64 0]), 3, 24) := by kernel_rfl
theorem bvals_three (s : ByteArray) (k : Nat) : intCells (bvals s 4 (3 * (k + 1))) = intCells (bvals s 4 (3 * k)) ++ [.int .i64 (M.bz s (4 + 3 * k)), .int .i64 (M.bz s (5 + 3 * k)), .int .i64 (M.bz s (6 + 3 * k))] := by
  have e : 3 * (k + 1) = 3 * k + 1 + 1 + 1 := by omega
  rw [e, bvals_succ, bvals_succ, bvals_succ, intCells_snoc, intCells_snoc, intCells_snoc]
  have e1 : 4 + (3 * k + 1) = 5 + 3 * k := by omega
  have e2 : 4 + (3 * k + 1 + 1) = 6 + 3 * k := by omega
  rw [e1, e2]
  simp

set_option maxHeartbeats 800000 in
theorem nodes_any (s : ByteArray) (c : Nat) (w : World) (hs : s.size ≤ maxLen) (hc : c ≤ 255) :
    Calls Tryz.prog 101 #[.string s, .int .i64 c] w fun e w' => ∃ v, e = .returned v ∧ w'.ownsRow w.heap.size 175 3 v c (intCells (bvals s 4 (3 * c))) ∧ Below w.heap.size w w' := by
  obtain ⟨i0, hi, hz0, hz1, hz2⟩ := info_parts infoNode
  have HI := hide hi
  have HZ0 := hide hz0
  have HZ1 := hide hz1
  have HZ2 := hide hz2
  clear hi hz0 hz1 hz2
  go_enter Tryz.func101, Tryz.ntmps101
  go_wp2_with fail
  go_loopw [5, 6] (fun v i wr => ∃ k : Nat, k ≤ c ∧ i = .int .i64 k ∧ wr.ownsRow w.heap.size 175 3 v k (intCells (bvals s 4 (3 * k))) ∧ Below w.heap.size w wr) (fun _ i _ => c - (intOf i).toNat)
  case atStart => exact ⟨0, by omega, rfl, World.ownsRow_nil _ _ _ _, Below.refl _ _⟩
  case round =>
    obtain ⟨k, hk, rfl, hown, hbel⟩ := hrel
    have HO := hide hown
    have HB := hide hbel
    have hsz := hbel.size
    clear hown hbel
    by_cases hlt : k < c
    · have HS := hide (bvals_three s k)
      go_wp2_with fail
      refine (wordByte_any s _ _ hs (by omega)).mono ?_
      rintro e w' ⟨rfl, rfl⟩
      rw [show (4 + 3 * (k : Int)).toNat = 4 + 3 * k from by omega]
      generalize M.bz s (4 + 3 * k) = x at *
      go_wp2_with fail
      refine (wordByte_any s _ _ hs (by omega)).mono ?_
      rintro e w' ⟨rfl, rfl⟩
      rw [show (4 + 3 * (k : Int) + 1).toNat = 5 + 3 * k from by omega]
      generalize M.bz s (5 + 3 * k) = y at *
      go_wp2_with fail
      refine (wordByte_any s _ _ hs (by omega)).mono ?_
      rintro e w' ⟨rfl, rfl⟩
      rw [show (4 + 3 * (k : Int) + 2).toNat = 6 + 3 * k from by omega]
      generalize M.bz s (6 + 3 * k) = z at *
      go_wp2_with (at_builtin; go_loud (refine append_one (wr.alloc (.cells #[.int .i64 x, .int .i64 y, .int .i64 z] 175)) rfl (.tmp 31) (.tmp 33) 121 rfl w.heap.size 175 i0 _ 3 24 Tryz.underlying121 (unhide HI) (unhide HZ0) (unhide HZ1) (unhide HZ2) rfl (by decide) u5 k _ rfl ((unhide HO).alloc _) [.int .i64 x, .int .i64 y, .int .i64 z] rfl (by simp [Act.eval]) (by simp [Value.oneCell']) (by omega) (by omega) (by simp; omega) ?_); intro v' w1 hown1 hbel1 hsz1)
      have HR : Hid (w1.ownsRow w.heap.size 175 3 v' (k + 1) (intCells (bvals s 4 (3 * (k + 1))))) := by rw [HS.out]; exact hown1
      have HB1 := hide (hbel1 w ((unhide HB).alloc hsz _))
      clear hown1 hbel1
      go_roundw
      case rel => exact ⟨k + 1, by omega, by go_num, unhide HR, unhide HB1⟩
      case measure => simp [intOf]; omega
    · have : k = c := by omega
      subst this
      go_wp2
      go_ret
      exact ⟨_, rfl, unhide HO, unhide HB⟩
end Go.Proofs.YtjfmiomopfjecabGreat

/- The program's test of an image's nodes and outputs: sound. -/
namespace Go.Proofs.YtjfmiomopfjecabGreat
open Go.RowKit

/-- a row as a slice value whose address is known where there is an element -/
theorem HoldsRow.shape {w : World} {v : Value} {n : Nat} {xs : List Value} (h : HoldsRow w v n xs) :
    ∃ ao cap, v = .slice ao n cap ∧ n ≤ cap ∧ cap ≤ maxLen ∧ (0 < n → ∃ g, ao = some ⟨g, 0, none⟩ ∧ g < w.heap.size ∧ ∀ j u, xs[j]? = some u → w.cell? ⟨g, j, none⟩ = some u) := by
  rcases h with ⟨rfl, rfl⟩ | ⟨g, cap, rfl, hg, h1, h2, h3⟩
  · exact ⟨none, 0, rfl, Nat.le_refl _, Nat.zero_le _, fun h => absurd h (by omega)⟩
  · exact ⟨_, cap, rfl, h1, h2, fun _ => ⟨g, rfl, hg, h3⟩⟩

theorem sound_false1 {s : ByteArray} {k : Nat} (hk : k < M.bz s 2) (h : M.okOp (M.bz s (4 + 3 * k)) (M.bz s (5 + 3 * k)) (M.bz s (6 + 3 * k)) (M.bz s 1 + k) = false) : (M.nodesOk s (M.bz s 2) && M.outsOk s (M.bz s 3)) = false := by
  rw [show M.nodesOk s (M.bz s 2) = false from M.all_range_false (k := k) h hk]
  simp
theorem sound_false2 {s : ByteArray} {k : Nat} (hk : k < M.bz s 3) (h : ¬ M.bz s (4 + 3 * M.bz s 2 + k) < M.bz s 1 + M.bz s 2) : (M.nodesOk s (M.bz s 2) && M.outsOk s (M.bz s 3)) = false := by
  rw [show M.outsOk s (M.bz s 3) = false from M.all_range_false (k := k) (by simpa using h) hk]
  simp
theorem below_box {w w1 : World} {o : Obj} (h : Below (w.heap.size + 1) (w.alloc o) w1) : Below w.heap.size w w1 :=
  ((Below.refl _ _).alloc (Nat.le_refl _) o).trans (h.mono (by omega))
def soundOk (s : ByteArray) : Bool := M.nodesOk s (M.bz s 2) && M.outsOk s (M.bz s 3)

set_option maxHeartbeats 1600000 in
theorem sound_any (s : ByteArray) (v1 v2 : Value) (w : World) (h : M.headOk s = true)
    (hr1 : HoldsRow w v1 (M.bz s 2) (intCells (bvals s 4 (3 * M.bz s 2)))) (hr2 : HoldsRow w v2 (M.bz s 3) (intCells (bvals s (4 + 3 * M.bz s 2) (M.bz s 3)))) :
    Calls Tryz.prog 103 #[.agg #[.int .i64 (M.bz s 1), v1, v2]] w fun e w' => e = .returned (.bool (soundOk s)) ∧ Below w.heap.size w w' := by
  obtain ⟨h0, h1, h2, h3, h4, h5, h6⟩ := M.headOk_eq h
  have HI : Hid (∀ b, soundOk s = b → Ending.returned (.bool b) = .returned (.bool (soundOk s))) := fun b e => by rw [e]
  have HF1 : Hid (∀ k, k < M.bz s 2 → M.okOp (M.bz s (4 + 3 * k)) (M.bz s (5 + 3 * k)) (M.bz s (6 + 3 * k)) (M.bz s 1 + k) = false → soundOk s = false) := fun k hk e => sound_false1 hk e
  have HF2 : Hid (∀ k, k < M.bz s 3 → ¬ M.bz s (4 + 3 * M.bz s 2 + k) < M.bz s 1 + M.bz s 2 → soundOk s = false) := fun k hk e => sound_false2 hk e
  have HN : Hid (∀ k, M.nodesOk s k = true → M.okOp (M.bz s (4 + 3 * k)) (M.bz s (5 + 3 * k)) (M.bz s (6 + 3 * k)) (M.bz s 1 + k) = true → M.nodesOk s (k + 1) = true) := fun k a b => nodes_next a b
  have HO : Hid (∀ k, M.outsOk s k = true → M.bz s (4 + 3 * M.bz s 2 + k) < M.bz s 1 + M.bz s 2 → M.outsOk s (k + 1) = true) := fun k a b => outs_next a b
  have HT : Hid (M.nodesOk s (M.bz s 2) = true → M.outsOk s (M.bz s 3) = true → soundOk s = true) := fun a b => by unfold soundOk; rw [a, b]; rfl
  obtain ⟨a1, cap1, rfl, c11, c12, c13⟩ := hr1.shape
  obtain ⟨a2, cap2, rfl, c21, c22, c23⟩ := hr2.shape
  obtain ⟨g2, rfl, hg2, hcell2⟩ := c23 (by omega)
  have HB13 := hide c13
  have HC2 := hide hcell2
  clear h h0 h6 hr1 hr2 c13 c23 hcell2
  generalize hn : M.bz s 1 = n at *
  generalize hm : M.bz s 2 = m at *
  generalize hk : M.bz s 3 = c at *
  clear hn hm hk
  unfold maxLen at c12 c22
  go_enter Tryz.func103, Tryz.ntmps103
  go_wp2_with fail
  go_loopw [3] (fun i wr => ∃ k : Nat, k ≤ m ∧ i = .int .i64 k ∧ Hid (M.nodesOk s k = true) ∧ Below (w.heap.size + 1) (w.alloc (.cells #[.int .i64 n, .slice a1 m cap1, .slice (some ⟨g2, 0, none⟩) c cap2] 123)) wr) (fun i _ => m - (intOf i).toNat)
  case atStart => exact ⟨0, by omega, rfl, rfl, Below.refl _ _⟩
  case round =>
    obtain ⟨k, hk, rfl, hnod, hbel⟩ := hrel
    have hb0 : wr.cell? ⟨w.heap.size, 0, none⟩ = some (.int .i64 n) := (hbel.cell (p := ⟨w.heap.size, 0, none⟩) (by simp)).trans (by simp)
    have hb1 : wr.cell? ⟨w.heap.size, 1, none⟩ = some (.slice a1 m cap1) := (hbel.cell (p := ⟨w.heap.size, 1, none⟩) (by simp)).trans (by simp)
    have hb2 : wr.cell? ⟨w.heap.size, 2, none⟩ = some (.slice (some ⟨g2, 0, none⟩) c cap2) := (hbel.cell (p := ⟨w.heap.size, 2, none⟩) (by simp)).trans (by simp)
    have HB := hide hbel
    have hsz := hbel.size
    simp only [World.size_alloc] at hsz
    by_cases hlt : k < m
    · obtain ⟨g, rfl, hg, hcell⟩ := unhide HB13 (by omega)
      have hold : ∀ j, wr.cell? ⟨g, j, none⟩ = w.cell? ⟨g, j, none⟩ := fun j => (hbel.cell (p := ⟨g, j, none⟩) (by show g < _; omega)).trans (World.cell?_alloc_lt _ _ _ hg)
      have e0 := (hold (k * 3)).trans (hcell (k * 3) _ (bvals_at s 4 (3 * m) (k * 3) (by omega)))
      have e1 := (hold (k * 3 + 1)).trans (hcell (k * 3 + 1) _ (bvals_at s 4 (3 * m) (k * 3 + 1) (by omega)))
      have e2 := (hold (k * 3 + 2)).trans (hcell (k * 3 + 2) _ (bvals_at s 4 (3 * m) (k * 3 + 2) (by omega)))
      rw [show 4 + k * 3 = 4 + 3 * k from by omega] at e0
      rw [show 4 + (k * 3 + 1) = 5 + 3 * k from by omega] at e1
      rw [show 4 + (k * 3 + 2) = 6 + 3 * k from by omega] at e2
      have b0 := M.bz_lt s (4 + 3 * k)
      have b1 := M.bz_lt s (5 + 3 * k)
      have b2 := M.bz_lt s (6 + 3 * k)
      clear hold hcell hbel
      obtain ⟨q, hq⟩ : ∃ q : Nat, q = n + k := ⟨_, rfl⟩
      have hq4 : q ≤ 65535 := by omega
      have hwr : IntKind.i64.wrap ((n : Int) + (k : Int)) = (q : Int) := by rw [IntWalk.i64_in _ ⟨by omega, by omega⟩]; omega
      have HQ := hide hq
      clear hq
      have hik : (k : Int) < (m : Int) := by omega
      generalize hx : M.bz s (4 + 3 * k) = x at *
      generalize hy : M.bz s (5 + 3 * k) = y at *
      generalize hz : M.bz s (6 + 3 * k) = z at *
      have HX := hide hx
      have HY := hide hy
      have HZ := hide hz
      clear hx hy hz
      go_wp2_with fail
      go_region_held3 (fun w' => w'.cell? ⟨w.heap.size, 0, none⟩ = some (.int .i64 n) ∧ w'.cell? ⟨w.heap.size, 1, none⟩ = some (.slice (some ⟨g, 0, none⟩) m cap1) ∧ w'.cell? ⟨g, k * 3, none⟩ = some (.int .i64 x) ∧ w'.cell? ⟨g, k * 3 + 1, none⟩ = some (.int .i64 y) ∧ w'.cell? ⟨g, k * 3 + 2, none⟩ = some (.int .i64 z)) (first | go_keep | exact ⟨cell_later hbF hb0, cell_later hbF hb1, cell_later hbF e0, cell_later hbF e1, cell_later hbF e2⟩) ((go_at_call 130; refine (fits_any x y z q _ b0 b1 b2 hq4).mono ?_; rintro e w1 ⟨rfl, hbF⟩))
      have HB1 := hide ((unhide HB).drew.trans (hbF.mono hsz))
      clear hbF e0 e1 e2 hb0 hb1 hb2 hwr
      cases hok : M.okOp x y z q
      · have HR := hide (HI.out false (HF1.out k hlt (by rw [HX.out, HY.out, HZ.out, ← HQ.out]; exact hok)))
        clear hok
        go_wp2
        go_ret
        exact ⟨HR.out, below_box (unhide HB1)⟩
      · have HR := hide (HN.out k hnod.out (by rw [HX.out, HY.out, HZ.out, ← HQ.out]; exact hok))
        clear hok
        go_wp2
        go_roundw
        case rel => exact ⟨k + 1, by omega, by go_num, HR, unhide HB1⟩
        case measure => simp [intOf]; omega
    · have hkm : k = m := by omega
      subst hkm
      clear hlt hbel
      go_wp2_with fail
      clear hb0 hb1 hb2
      go_loopw [4] (fun i wr => ∃ j : Nat, j ≤ c ∧ i = .int .i64 j ∧ Hid (M.outsOk s j = true) ∧ Below (w.heap.size + 1) (w.alloc (.cells #[.int .i64 n, .slice a1 k cap1, .slice (some ⟨g2, 0, none⟩) c cap2] 123)) wr) (fun i _ => c - (intOf i).toNat)
      case atStart => exact ⟨0, by omega, rfl, rfl, unhide HB⟩
      case round =>
        clear HB hsz
        obtain ⟨j, hj, rfl, hout, hbel⟩ := hrel
        have hb0 : wr.cell? ⟨w.heap.size, 0, none⟩ = some (.int .i64 n) := (hbel.cell (p := ⟨w.heap.size, 0, none⟩) (by simp)).trans (by simp)
        have hb1 : wr.cell? ⟨w.heap.size, 1, none⟩ = some (.slice a1 k cap1) := (hbel.cell (p := ⟨w.heap.size, 1, none⟩) (by simp)).trans (by simp)
        have hb2 : wr.cell? ⟨w.heap.size, 2, none⟩ = some (.slice (some ⟨g2, 0, none⟩) c cap2) := (hbel.cell (p := ⟨w.heap.size, 2, none⟩) (by simp)).trans (by simp)
        by_cases hlt : j < c
        · have hold : ∀ i, wr.cell? ⟨g2, i, none⟩ = w.cell? ⟨g2, i, none⟩ := fun i => (hbel.cell (p := ⟨g2, i, none⟩) (by show g2 < _; omega)).trans (World.cell?_alloc_lt _ _ _ hg2)
          have e0 := (hold j).trans (unhide HC2 j _ (bvals_at s (4 + 3 * k) c j hlt))
          have HB := hide hbel
          clear hold hbel
          have hij : (j : Int) < (c : Int) := by omega
          have hwr : IntKind.i64.wrap ((n : Int) + (k : Int)) = (n : Int) + (k : Int) := IntWalk.i64_in _ ⟨by omega, by omega⟩
          have b0 := M.bz_lt s (4 + 3 * k + j)
          have HE1 := hide (HF2.out j hlt)
          have HE2 := hide (HO.out j hout.out)
          generalize M.bz s (4 + 3 * k + j) = x at *
          go_wp2_with fail
          go_region_held3 (fun w' => w'.cell? ⟨w.heap.size, 0, none⟩ = some (.int .i64 n) ∧ w'.cell? ⟨w.heap.size, 1, none⟩ = some (.slice a1 k cap1) ∧ w'.cell? ⟨w.heap.size, 2, none⟩ = some (.slice (some ⟨g2, 0, none⟩) c cap2) ∧ w'.cell? ⟨g2, j, none⟩ = some (.int .i64 x)) (go_keep) (fail)
          clear e0 hb0 hb1 hb2 hwr
          have HB1 := hide (unhide HB).drew
          by_cases hle : x < n + k
          · have HR := hide (unhide HE2 hle)
            have hle' : ¬ (n : Int) + (k : Int) ≤ (x : Int) := by omega
            go_wp2
            go_roundw
            case rel => exact ⟨j + 1, by omega, by go_num, HR, unhide HB1⟩
            case measure => simp [intOf]; omega
          · have HR := hide (HI.out false (unhide HE1 hle))
            have hle' : (n : Int) + (k : Int) ≤ (x : Int) := by omega
            go_wp2
            go_ret
            exact ⟨HR.out, below_box (unhide HB1)⟩
        · have hjc : j = c := by omega
          subst hjc
          have HR := hide (HI.out true (HT.out hnod.out hout.out))
          have HB := hide hbel
          clear hbel
          go_wp2
          go_ret
          exact ⟨HR.out, below_box (unhide HB)⟩
end Go.Proofs.YtjfmiomopfjecabGreat

/- net.Parse. -/
namespace Go.Proofs.YtjfmiomopfjecabGreat
open Go.RowKit

theorem parse_shape (s : ByteArray) (w : World) (hs : s.size ≤ maxLen) (h : M.headOk s = false) :
    Calls Tryz.prog 69 #[.string s] w fun e w' => e = .returned (.tuple #[.agg #[.int .i64 0, .slice none 0 0, .slice none 0 0], .bool false]) ∧ Below w.heap.size w w' := by
  go_enter Tryz.func69, Tryz.ntmps69
  go_wp2_with fail
  refine (shaped_no s _ hs h).mono ?_
  rintro e w' ⟨rfl, rfl⟩
  go_wp2
  exact bodyPost_ret (v := .tuple #[.agg #[.int .i64 0, .slice none 0 0, .slice none 0 0], .bool false]) (by simp [results, Tryz.results69, go_sem]) rfl ⟨rfl, (Below.refl _ _).alloc (Nat.le_refl _) _⟩

set_option maxHeartbeats 800000 in
theorem parse_any (s : ByteArray) (w : World) (hs : s.size ≤ maxLen) (h : M.headOk s = true) :
    Calls Tryz.prog 69 #[.string s] w fun e w' =>
      (soundOk s = true → ∃ v1 v2, e = .returned (.tuple #[.agg #[.int .i64 (M.bz s 1), v1, v2], .bool true]) ∧ HoldsRow w' v1 (M.bz s 2) (intCells (bvals s 4 (3 * M.bz s 2))) ∧ HoldsRow w' v2 (M.bz s 3) (intCells (bvals s (4 + 3 * M.bz s 2) (M.bz s 3)))) ∧
      (soundOk s = false → e = .returned (.tuple #[.agg #[.int .i64 0, .slice none 0 0, .slice none 0 0], .bool false])) ∧ Below w.heap.size w w' := by
  have HH := hide h
  have b1 := M.bz_lt s 1
  have b2 := M.bz_lt s 2
  have b3 := M.bz_lt s 3
  go_enter Tryz.func69, Tryz.ntmps69
  go_wp2_with fail
  refine (shaped_yes s _ hs h).mono ?_
  rintro e w' ⟨rfl, rfl⟩
  clear h
  go_wp2_with fail
  refine (wordByte_any s 2 _ hs (by omega)).mono ?_
  rintro e w' ⟨rfl, rfl⟩
  rw [show (2 : Int).toNat = 2 from rfl]
  go_wp2_with fail
  refine (wordByte_any s 3 _ hs (by omega)).mono ?_
  rintro e w' ⟨rfl, rfl⟩
  rw [show (3 : Int).toNat = 3 from rfl]
  go_wp2_with fail
  refine (wordByte_any s 1 _ hs (by omega)).mono ?_
  rintro e w' ⟨rfl, rfl⟩
  rw [show (1 : Int).toNat = 1 from rfl]
  go_wp2_with fail
  refine (nodes_any s (M.bz s 2) _ hs (by omega)).mono ?_
  rintro e w2 ⟨v1, rfl, hown1, hb2⟩
  obtain ⟨a1, cap1, rfl, _, _, _⟩ := (holdsRow_own hown1).shape
  have z0 : w2.cell? ⟨w.heap.size + 1, 0, none⟩ = some (.int .i64 (M.bz s 1)) := (hb2.cell (p := ⟨w.heap.size + 1, 0, none⟩) (by simp only [World.size_alloc]; omega)).trans (by go_simp)
  have z1 : w2.cell? ⟨w.heap.size + 1, 1, none⟩ = some (.slice none 0 0) := (hb2.cell (p := ⟨w.heap.size + 1, 1, none⟩) (by simp only [World.size_alloc]; omega)).trans (by go_simp)
  have z2 : w2.cell? ⟨w.heap.size + 1, 2, none⟩ = some (.slice none 0 0) := (hb2.cell (p := ⟨w.heap.size + 1, 2, none⟩) (by simp only [World.size_alloc]; omega)).trans (by go_simp)
  have r0 : w2.cell? ⟨w.heap.size, 0, none⟩ = some (.int .i64 0) := (hb2.cell (p := ⟨w.heap.size, 0, none⟩) (by simp only [World.size_alloc]; omega)).trans (by go_simp)
  have r1 : w2.cell? ⟨w.heap.size, 1, none⟩ = some (.slice none 0 0) := (hb2.cell (p := ⟨w.heap.size, 1, none⟩) (by simp only [World.size_alloc]; omega)).trans (by go_simp)
  have r2 : w2.cell? ⟨w.heap.size, 2, none⟩ = some (.slice none 0 0) := (hb2.cell (p := ⟨w.heap.size, 2, none⟩) (by simp only [World.size_alloc]; omega)).trans (by go_simp)
  have fz : ∀ o, w2.frozen? ⟨w.heap.size + 1, o, none⟩ = false := fun o => (hb2.frozen (p := ⟨w.heap.size + 1, o, none⟩) (by simp only [World.size_alloc]; omega)).trans (by go_simp)
  have fr : ∀ o, w2.frozen? ⟨w.heap.size, o, none⟩ = false := fun o => (hb2.frozen (p := ⟨w.heap.size, o, none⟩) (by simp only [World.size_alloc]; omega)).trans (by go_simp)
  have hsz2 := hb2.size
  simp only [World.size_alloc] at hsz2
  have HB2 : Hid (Below w.heap.size w w2) := (((Below.refl w.heap.size w).alloc (Nat.le_refl _) _).alloc (by simp) _).trans (hb2.mono (by simp; omega))
  have HO1 := hide hown1
  clear hown1 hb2
  go_wp2_with fail
  rw [show (4 + 3 * (M.bz s 2 : Int)) = ((4 + 3 * M.bz s 2 : Nat) : Int) from by omega]
  refine (wordBytes_any s (4 + 3 * M.bz s 2) (M.bz s 3) _ hs (by omega) (by omega)).mono ?_
  rintro e w3 ⟨v2, rfl, hown2, hb3⟩
  obtain ⟨a2, cap2, rfl, _, _, _⟩ := (holdsRow_own hown2).shape
  have hsz3 := hb3.size
  simp only [World.size_setCell] at hsz3
  have y0 : w3.cell? ⟨w.heap.size + 1, 0, none⟩ = some (.int .i64 (M.bz s 1)) := (hb3.cell (p := ⟨w.heap.size + 1, 0, none⟩) (by simp only [World.size_setCell]; omega)).trans (by go_simp)
  have y1 : w3.cell? ⟨w.heap.size + 1, 1, none⟩ = some (.slice a1 (M.bz s 2) cap1) := (hb3.cell (p := ⟨w.heap.size + 1, 1, none⟩) (by simp only [World.size_setCell]; omega)).trans (by go_simp)
  have y2 : w3.cell? ⟨w.heap.size + 1, 2, none⟩ = some (.slice none 0 0) := (hb3.cell (p := ⟨w.heap.size + 1, 2, none⟩) (by simp only [World.size_setCell]; omega)).trans (by go_simp)
  have q0 : w3.cell? ⟨w.heap.size, 0, none⟩ = some (.int .i64 0) := (hb3.cell (p := ⟨w.heap.size, 0, none⟩) (by simp only [World.size_setCell]; omega)).trans (by go_simp)
  have q1 : w3.cell? ⟨w.heap.size, 1, none⟩ = some (.slice none 0 0) := (hb3.cell (p := ⟨w.heap.size, 1, none⟩) (by simp only [World.size_setCell]; omega)).trans (by go_simp)
  have q2 : w3.cell? ⟨w.heap.size, 2, none⟩ = some (.slice none 0 0) := (hb3.cell (p := ⟨w.heap.size, 2, none⟩) (by simp only [World.size_setCell]; omega)).trans (by go_simp)
  have gz : ∀ o, w3.frozen? ⟨w.heap.size + 1, o, none⟩ = false := fun o => (hb3.frozen (p := ⟨w.heap.size + 1, o, none⟩) (by simp only [World.size_setCell]; omega)).trans (by go_simp)
  have gr : ∀ o, w3.frozen? ⟨w.heap.size, o, none⟩ = false := fun o => (hb3.frozen (p := ⟨w.heap.size, o, none⟩) (by simp only [World.size_setCell]; omega)).trans (by go_simp)
  have HB3 : Hid (Below w.heap.size w w3) := ((unhide HB2).setCell (by simp) _).trans (hb3.mono (by simp only [World.size_setCell]; omega))
  have o1 := ownsRow_setCell_below (ownsRow_below (ownsRow_setCell_below (unhide HO1) (a := ⟨w.heap.size + 1, 1, none⟩) (by simp only [World.size_alloc]; omega) (.slice a1 (M.bz s 2) cap1)) hb3) (a := ⟨w.heap.size + 1, 2, none⟩) (by simp only [World.size_alloc]; omega) (.slice a2 (M.bz s 3) cap2)
  have o2 := ownsRow_setCell_below hown2 (a := ⟨w.heap.size + 1, 2, none⟩) (by simp only [World.size_setCell]; omega) (.slice a2 (M.bz s 3) cap2)
  have HO1' := hide (holdsRow_own o1)
  have HO2 := hide (holdsRow_own o2)
  have HW1 := hide o1
  have HW2 := hide o2
  clear hown2 hb3 z0 z1 z2 r0 r1 r2 fz fr o1 o2 HO1 HB2
  go_wp2_with fail
  refine (sound_any s _ _ _ (unhide HH) (unhide HO1') (unhide HO2)).mono ?_
  rintro e w4 ⟨rfl, hb4⟩
  have hsz4 := hb4.size
  simp only [World.size_setCell] at hsz4
  have x0 : w4.cell? ⟨w.heap.size + 1, 0, none⟩ = some (.int .i64 (M.bz s 1)) := (hb4.cell (p := ⟨w.heap.size + 1, 0, none⟩) (by simp only [World.size_setCell]; omega)).trans (by go_simp)
  have x1 : w4.cell? ⟨w.heap.size + 1, 1, none⟩ = some (.slice a1 (M.bz s 2) cap1) := (hb4.cell (p := ⟨w.heap.size + 1, 1, none⟩) (by simp only [World.size_setCell]; omega)).trans (by go_simp)
  have x2 : w4.cell? ⟨w.heap.size + 1, 2, none⟩ = some (.slice a2 (M.bz s 3) cap2) := (hb4.cell (p := ⟨w.heap.size + 1, 2, none⟩) (by simp only [World.size_setCell]; omega)).trans (by go_simp)
  have p0 : w4.cell? ⟨w.heap.size, 0, none⟩ = some (.int .i64 0) := (hb4.cell (p := ⟨w.heap.size, 0, none⟩) (by simp only [World.size_setCell]; omega)).trans (by go_simp)
  have p1 : w4.cell? ⟨w.heap.size, 1, none⟩ = some (.slice none 0 0) := (hb4.cell (p := ⟨w.heap.size, 1, none⟩) (by simp only [World.size_setCell]; omega)).trans (by go_simp)
  have p2 : w4.cell? ⟨w.heap.size, 2, none⟩ = some (.slice none 0 0) := (hb4.cell (p := ⟨w.heap.size, 2, none⟩) (by simp only [World.size_setCell]; omega)).trans (by go_simp)
  have fr4 : ∀ o, w4.frozen? ⟨w.heap.size, o, none⟩ = false := fun o => (hb4.frozen (p := ⟨w.heap.size, o, none⟩) (by simp only [World.size_setCell]; omega)).trans (by go_simp)
  have HB4 : Hid (Below w.heap.size w w4) := ((unhide HB3).setCell (by simp) _).trans (hb4.mono (by simp only [World.size_setCell]; omega))
  have HR1 := hide (fun (x y z : Value) => holdsRow_own (ownsRow_setCell_below (ownsRow_setCell_below (ownsRow_setCell_below (ownsRow_below (unhide HW1) hb4) (a := ⟨w.heap.size, 0, none⟩) (by simp only [World.size_alloc]; omega) x) (a := ⟨w.heap.size, 1, none⟩) (by simp only [World.size_alloc]; omega) y) (a := ⟨w.heap.size, 2, none⟩) (by simp only [World.size_alloc]; omega) z))
  have HR2 := hide (fun (x y z : Value) => holdsRow_own (ownsRow_setCell_below (ownsRow_setCell_below (ownsRow_setCell_below (ownsRow_below (unhide HW2) hb4) (a := ⟨w.heap.size, 0, none⟩) (by simp only [World.size_setCell]; omega) x) (a := ⟨w.heap.size, 1, none⟩) (by simp only [World.size_setCell]; omega) y) (a := ⟨w.heap.size, 2, none⟩) (by simp only [World.size_setCell]; omega) z))
  clear HW1 HW2
  clear hb4 y0 y1 y2 q0 q1 q2 gz gr HO1' HO2 HB3
  cases hok : soundOk s
  · have HOK := hide hok
    clear hok
    go_wp2
    refine bodyPost_ret (v := .tuple #[.agg #[.int .i64 0, .slice none 0 0, .slice none 0 0], .bool false]) (by simp [results, Tryz.results69, go_sem, p0, p1, p2]) rfl ⟨?_, ?_, ?_⟩
    · intro h; rw [HOK.out] at h; cases h
    · intro _; rfl
    · exact (((unhide HB4).setCell (by simp) _).setCell (by simp) _).setCell (by simp) _
  · have HOK := hide hok
    clear hok
    go_wp2
    refine bodyPost_ret (v := .tuple #[.agg #[.int .i64 (M.bz s 1), .slice a1 (M.bz s 2) cap1, .slice a2 (M.bz s 3) cap2], .bool true]) (by simp [results, Tryz.results69, go_sem, p0, p1, p2]) rfl ⟨?_, ?_, ?_⟩
    · intro _; refine ⟨_, _, rfl, ?_, ?_⟩
      · exact unhide HR1 _ _ _
      · exact unhide HR2 _ _ _
    · intro h; rw [HOK.out] at h; cases h
    · exact (((unhide HB4).setCell (by simp) _).setCell (by simp) _).setCell (by simp) _
end Go.Proofs.YtjfmiomopfjecabGreat

/- net.Eval, slots.Check, slots.Eval. -/
namespace Go.Proofs.YtjfmiomopfjecabGreat
open Go.RowKit

theorem parse_ok (s : ByteArray) (w : World) (hs : s.size ≤ maxLen) (h : M.isImage s = true) :
    Calls Tryz.prog 69 #[.string s] w fun e w' => ∃ a1 cap1 a2 cap2, e = .returned (.tuple #[.agg #[.int .i64 (M.bz s 1), .slice a1 (M.bz s 2) cap1, .slice a2 (M.bz s 3) cap2], .bool true]) ∧
      HoldsRow w' (.slice a1 (M.bz s 2) cap1) (M.bz s 2) (intCells (bvals s 4 (3 * M.bz s 2))) ∧ HoldsRow w' (.slice a2 (M.bz s 3) cap2) (M.bz s 3) (intCells (bvals s (4 + 3 * M.bz s 2) (M.bz s 3))) ∧ Below w.heap.size w w' := by
  have hh := image_head h
  have hsd : soundOk s = true := by
    unfold M.isImage at h
    rw [hh] at h
    exact h
  refine (parse_any s w hs hh).mono fun e w' ⟨h1, _, h3⟩ => ?_
  obtain ⟨v1, v2, he, r1, r2⟩ := h1 hsd
  obtain ⟨a1, cap1, e1, _, _, _⟩ := r1.shape
  obtain ⟨a2, cap2, e2, _, _, _⟩ := r2.shape
  subst e1 e2
  exact ⟨a1, cap1, a2, cap2, he, r1, r2, h3⟩
theorem parse_no (s : ByteArray) (w : World) (hs : s.size ≤ maxLen) (h : M.isImage s = false) :
    Calls Tryz.prog 69 #[.string s] w fun e w' => e = .returned (.tuple #[.agg #[.int .i64 0, .slice none 0 0, .slice none 0 0], .bool false]) ∧ Below w.heap.size w w' := by
  cases hh : M.headOk s
  · exact parse_shape s w hs hh
  · refine (parse_any s w hs hh).mono fun e w' ⟨_, h2, h3⟩ => ⟨h2 ?_, h3⟩
    unfold M.isImage at h
    rw [hh] at h
    exact h

theorem netCheck_any (s : ByteArray) (w : World) (hs : s.size ≤ maxLen) :
    Calls Tryz.prog 55 #[.string s] w fun e w' => e = .returned (.int .i64 (checkNum s)) ∧ Below w.heap.size w w' := by
  have HC := hide (show checkNum s = if M.isImage s then 0 else 1 from rfl)
  cases h : M.isImage s
  · have HE : Hid (checkNum s = 1) := by rw [HC.out, h]; rfl
    go_enter Tryz.func55, Tryz.ntmps55
    go_wp2_with fail
    refine (parse_no s _ hs h).mono ?_
    clear h
    rintro e w' ⟨rfl, hb⟩
    go_wp2
    go_ret
    exact ⟨ret_int HE.out.symm, hb.alloc hb.size _⟩
  · have HE : Hid (checkNum s = 0) := by rw [HC.out, h]; rfl
    go_enter Tryz.func55, Tryz.ntmps55
    go_wp2_with fail
    refine (parse_ok s _ hs h).mono ?_
    clear h
    rintro e w' ⟨a1, cap1, a2, cap2, rfl, _, _, hb⟩
    go_wp2
    go_ret
    exact ⟨ret_int HE.out.symm, hb.alloc hb.size _⟩

theorem takes_any (n : Nat) (v1 v2 : Value) (inp : ByteArray) (w : World) (hn : n ≤ 255) (_hi : inp.size ≤ maxLen) :
    Calls Tryz.prog 110 #[.agg #[.int .i64 n, v1, v2], .string inp] w fun e w' => e = .returned (.bool (decide (inp.size = 2 * n))) ∧ Below w.heap.size w w' := by
  unfold maxLen at _hi
  have HE : Hid (((inp.size : Int) == 2 * (n : Int)) = decide (inp.size = 2 * n)) := by
    show _ = _
    rw [Bool.eq_iff_iff]; simp; omega
  go_enter Tryz.func110, Tryz.ntmps110
  go_wp2
  go_ret
  exact ⟨ret_bool HE.out, (Below.refl _ _).alloc (Nat.le_refl _) _⟩

theorem insOf_at {inp : ByteArray} {q : Nat} (hq : inp.size = 2 * q) (i : Nat) : (M.insOf inp q).getD i 0 = M.wordVal ((M.bz inp (2 * i) : Int) * 256 + M.bz inp (2 * i + 1)) := by
  by_cases hi : i < q
  · simp [M.insOf, hi]
  · rw [M.bz_out inp (2 * i) (by omega), M.bz_out inp (2 * i + 1) (by omega), List.getD_eq_getElem?_getD, List.getElem?_eq_none (by rw [M.insOf_length]; omega)]
    rfl
set_option maxHeartbeats 800000 in
theorem netValues_at (s inp : ByteArray) (q n m c : Nat) (a1 a2 : Option Addr) (cap1 cap2 : Nat) (w : World) (h : M.isImage s = true) (heq : inp.size = 2 * q) (hq4 : q ≤ 4) (hn : M.bz s 1 = n) (hm : M.bz s 2 = m)
    (hr1 : HoldsRow w (.slice a1 m cap1) m (intCells (bvals s 4 (3 * m)))) :
    Calls Tryz.prog 138 #[.agg #[.int .i64 n, .slice a1 m cap1, .slice a2 c cap2], .string inp] w fun e w' => ∃ v, e = .returned v ∧
      HoldsRow w' v (M.runTo s inp m).length (intCells (M.runTo s inp m)) ∧ Below w.heap.size w w' := by
  obtain ⟨h0, h1, h2, h3, h4, h5, h6⟩ := M.headOk_eq (image_head h)
  have HOP : Hid (∀ k, k < m → M.okOp (M.bz s (4 + 3 * k)) (M.bz s (5 + 3 * k)) (M.bz s (6 + 3 * k)) (n + k) = true) := by rw [← hm, ← hn]; exact fun k hk => image_nodes h hk
  have HR0 : Hid (M.insOf inp n = M.runTo s inp 0) := by rw [← hn]; rfl
  rw [hn] at h1 h2
  rw [hm] at h3
  have HN := hide hn
  have HEQ := hide heq
  have HB13 : Hid (0 < m → ∃ g, a1 = some ⟨g, 0, none⟩ ∧ g < w.heap.size ∧ ∀ j u, (intCells (bvals s 4 (3 * m)))[j]? = some u → w.cell? ⟨g, j, none⟩ = some u) := by
    obtain ⟨a, c, e, _, _, hx⟩ := hr1.shape
    simp only [Value.slice.injEq] at e
    obtain ⟨rfl, _, _⟩ := e
    exact hx
  have hcap : cap1 ≤ maxLen ∧ m ≤ cap1 := by
    obtain ⟨a, c, e, h1, h2, hx⟩ := hr1.shape
    simp only [Value.slice.injEq] at e
    obtain ⟨_, _, rfl⟩ := e
    exact ⟨h2, h1⟩
  obtain ⟨hcap1, hcap2⟩ := hcap
  unfold maxLen at hcap1
  have hval := hide (fun w => wordValues_any inp q w heq hq4)
  clear h h0 h4 h5 h6 heq hr1 hn hm
  go_enter Tryz.func138, Tryz.ntmps138
  go_wp2_with fail
  refine (unhide hval _).mono ?_
  rintro e w2 ⟨gv, rfl, hown, hb2⟩
  have hsz0 : w.heap.size + 1 ≤ w2.heap.size := by have := hb2.size; simp at this; omega
  have HB2 : Hid (Below (w.heap.size + 1) (w.alloc (.cells #[.int .i64 (n), .slice a1 (m) cap1, .slice a2 (c) cap2] 123)) w2) := hb2.mono (by simp)
  have HG := hide (holdsRow_own hown)
  have hc0 : w2.cell? ⟨w.heap.size, 0, none⟩ = some (.int .i64 (n)) := (hb2.cell (p := ⟨w.heap.size, 0, none⟩) (by simp)).trans (by simp)
  have hc1 : w2.cell? ⟨w.heap.size, 1, none⟩ = some (.slice a1 (m) cap1) := (hb2.cell (p := ⟨w.heap.size, 1, none⟩) (by simp)).trans (by simp)
  have hc2 : w2.cell? ⟨w.heap.size, 2, none⟩ = some (.slice a2 (c) cap2) := (hb2.cell (p := ⟨w.heap.size, 2, none⟩) (by simp)).trans (by simp)
  have HC : Hid (∀ wr, Below w2.heap.size w2 wr → wr.cell? ⟨w.heap.size, 0, none⟩ = some (.int .i64 (n)) ∧ wr.cell? ⟨w.heap.size, 1, none⟩ = some (.slice a1 (m) cap1)) :=
    fun wr hb => ⟨(hb.cell (p := ⟨w.heap.size, 0, none⟩) (by show w.heap.size < _; omega)).trans hc0, (hb.cell (p := ⟨w.heap.size, 1, none⟩) (by show w.heap.size < _; omega)).trans hc1⟩
  have hfin := hide (fun wr (hb : Below w2.heap.size w2 wr) => below_box ((unhide HB2).trans (hb.mono hsz0)))
  have HOLD : Hid (∀ wr, Below w2.heap.size w2 wr → ∀ g j, g < w.heap.size → wr.cell? ⟨g, j, none⟩ = w.cell? ⟨g, j, none⟩) := fun wr hb g j hg =>
    (hb.cell (p := ⟨g, j, none⟩) (by show g < _; omega)).trans (((unhide HB2).cell (p := ⟨g, j, none⟩) (by show g < _; omega)).trans (World.cell?_alloc_lt _ _ _ hg))
  clear hown hb2 hc0 hc1 hc2 HB2
  go_wp2_with fail
  go_loopw [6, 7] (fun v i wr => ∃ k : Nat, k ≤ n ∧ i = .int .i64 k ∧ wr.ownsRow w2.heap.size 3 1 v (M.insOf inp k).length (intCells (M.insOf inp k)) ∧ Below w2.heap.size w2 wr) (fun _ i _ => n - (intOf i).toNat)
  case atStart => exact ⟨0, by omega, rfl, World.ownsRow_nil _ _ _ _, Below.refl _ _⟩
  case round =>
    obtain ⟨k, hk, rfl, hown, hbel⟩ := hrel
    obtain ⟨hb0, hb1⟩ := unhide HC _ hbel
    have hsz := hbel.size
    have HL := hide (M.insOf_length inp k)
    have HO := hide hown
    have HB := hide hbel
    have HGr := hide ((unhide HG).mono hbel)
    clear hown hbel
    by_cases hlt : k < n
    · have HS : Hid (M.insOf inp (k + 1) = M.insOf inp k ++ [(M.insOf inp q).getD k 0]) := by
        rw [insOf_at HEQ.out, M.insOf_succ]; rfl
      go_wp2_with fail
      refine (wordAt_any _ (M.insOf inp q) k _ (unhide HGr) (by omega)).mono ?_
      rintro e w' ⟨rfl, rfl⟩
      generalize (M.insOf inp q).getD k 0 = x at *
      go_wp2_with (at_builtin; (refine append_int _ rfl (.tmp 18) (.tmp 22) rfl w2.heap.size u6 (M.insOf inp k) x rfl rfl (unhide HO) (by rw [HL.out]; omega) hsz ?_); intro v' w1 hown1 hbel1 hsz1)
      have HR : Hid (w1.ownsRow w2.heap.size 3 1 v' (M.insOf inp (k + 1)).length (intCells (M.insOf inp (k + 1)))) := by rw [HS.out]; exact hown1
      have HB1 := hide (hbel1 _ (unhide HB))
      clear hown1 hbel1 hb0 hb1
      go_roundw
      case rel => exact ⟨k + 1, by omega, by go_num, unhide HR, unhide HB1⟩
      case measure => simp [intOf]; omega
    · have hkn : k = n := by omega
      subst hkn
      have HO0 : Hid (wr.ownsRow w2.heap.size 3 1 u6 (M.runTo s inp 0).length (intCells (M.runTo s inp 0))) := by
        rw [← HR0.out]; exact unhide HO
      clear HO HR0 HL HGr
      go_wp2_with fail
      go_loopw [6, 8] (fun v i wr => ∃ j : Nat, j ≤ m ∧ i = .int .i64 j ∧ wr.ownsRow w2.heap.size 3 1 v (M.runTo s inp j).length (intCells (M.runTo s inp j)) ∧ Below w2.heap.size w2 wr) (fun _ i _ => m - (intOf i).toNat)
      case atStart => exact ⟨0, by omega, rfl, unhide HO0, unhide HB⟩
      case round =>
        clear HO0 HB hb0 hb1 hsz
        obtain ⟨j, hj, rfl, hown, hbel⟩ := hrel
        obtain ⟨hb0, hb1⟩ := unhide HC _ hbel
        have hsz := hbel.size
        have HV := hide (M.runTo_vals s inp j)
        have HRow := hide (holdsRow_own hown)
        have HLen := hide (M.runTo_length s inp j)
        have HO := hide hown
        have HB := hide hbel
        by_cases hlt2 : j < m
        · obtain ⟨g, rfl, hg, hcell⟩ := unhide HB13 (by omega)
          have hold := fun i => unhide HOLD _ hbel g i hg
          have e0 := (hold (j * 3)).trans (hcell (j * 3) _ (bvals_at s 4 (3 * m) (j * 3) (by omega)))
          have e1 := (hold (j * 3 + 1)).trans (hcell (j * 3 + 1) _ (bvals_at s 4 (3 * m) (j * 3 + 1) (by omega)))
          have e2 := (hold (j * 3 + 2)).trans (hcell (j * 3 + 2) _ (bvals_at s 4 (3 * m) (j * 3 + 2) (by omega)))
          rw [show 4 + j * 3 = 4 + 3 * j from by omega] at e0
          rw [show 4 + (j * 3 + 1) = 5 + 3 * j from by omega] at e1
          rw [show 4 + (j * 3 + 2) = 6 + 3 * j from by omega] at e2
          have b0 := M.bz_lt s (4 + 3 * j)
          have b1 := M.bz_lt s (5 + 3 * j)
          have b2 := M.bz_lt s (6 + 3 * j)
          have hop := okOp_le (HOP.out j hlt2)
          have HS : Hid (M.runTo s inp (j + 1) = M.runTo s inp j ++ [M.nodeVal (M.runTo s inp j) (M.bz s (4 + 3 * j)) (M.bz s (5 + 3 * j)) (M.bz s (6 + 3 * j))]) := rfl
          clear hold hcell hbel hown HOP
          generalize M.bz s (4 + 3 * j) = x at *
          generalize M.bz s (5 + 3 * j) = y at *
          generalize M.bz s (6 + 3 * j) = z at *
          have HP := hide hop
          clear hop
          go_wp2_with fail
          refine (nodeValue_any x y z _ (M.runTo s inp j) _ (unhide HV) (unhide HRow) b1 b2 (unhide HP).1 (unhide HP).2).mono ?_
          rintro e w1 ⟨rfl, hbF⟩
          have hsz1 := hbF.size
          generalize M.nodeVal (M.runTo s inp j) x y z = y1 at *
          have HO1 := hide (ownsRow_below (unhide HO) hbF)
          have HB1 := hide ((unhide HB).trans (hbF.mono hsz))
          clear hbF e0 e1 e2 hb0 hb1
          go_wp2_with (at_builtin; (refine append_int _ rfl (.tmp 38) (.tmp 40) rfl w2.heap.size u6 (M.runTo s inp j) y1 rfl rfl (unhide HO1) (by rw [HLen.out, HN.out]; omega) (by omega) ?_); intro v' w3 hown1 hbel1 hsz3)
          have HR : Hid (w3.ownsRow w2.heap.size 3 1 v' (M.runTo s inp (j + 1)).length (intCells (M.runTo s inp (j + 1)))) := by rw [HS.out]; exact hown1
          have HB3 := hide (hbel1 _ (unhide HB1))
          clear hown1 hbel1
          go_roundw
          case rel => exact ⟨j + 1, by omega, by go_num, unhide HR, unhide HB3⟩
          case measure => simp [intOf]; omega
        · have hjm : j = m := by omega
          subst hjm
          clear hbel hown
          go_wp2
          go_ret
          exact ⟨_, rfl, unhide HRow, unhide hfin _ (unhide HB)⟩

theorem netValues_any (s inp : ByteArray) (q : Nat) (a1 a2 : Option Addr) (cap1 cap2 : Nat) (w : World) (h : M.isImage s = true) (heq : inp.size = 2 * q) (hq4 : q ≤ 4)
    (hr1 : HoldsRow w (.slice a1 (M.bz s 2) cap1) (M.bz s 2) (intCells (bvals s 4 (3 * M.bz s 2)))) :
    Calls Tryz.prog 138 #[.agg #[.int .i64 (M.bz s 1), .slice a1 (M.bz s 2) cap1, .slice a2 (M.bz s 3) cap2], .string inp] w fun e w' => ∃ v, e = .returned v ∧
      HoldsRow w' v (M.runTo s inp (M.bz s 2)).length (intCells (M.runTo s inp (M.bz s 2))) ∧ Below w.heap.size w w' :=
  netValues_at s inp q _ _ _ a1 a2 cap1 cap2 w h heq hq4 rfl rfl hr1

theorem netEval_any (s inp : ByteArray) (a1 a2 : Option Addr) (cap1 cap2 : Nat) (w : World) (h : M.isImage s = true) (heq : inp.size = 2 * M.bz s 1)
    (hr1 : HoldsRow w (.slice a1 (M.bz s 2) cap1) (M.bz s 2) (intCells (bvals s 4 (3 * M.bz s 2)))) (hr2 : HoldsRow w (.slice a2 (M.bz s 3) cap2) (M.bz s 3) (intCells (bvals s (4 + 3 * M.bz s 2) (M.bz s 3)))) :
    Calls Tryz.prog 111 #[.agg #[.int .i64 (M.bz s 1), .slice a1 (M.bz s 2) cap1, .slice a2 (M.bz s 3) cap2], .string inp] w fun e w' => e = .returned (.string (M.evalOut s inp)) ∧ Below w.heap.size w w' := by
  obtain ⟨h0, h1, h2, h3, h4, h5, h6⟩ := M.headOk_eq (image_head h)
  have HFIN : Hid (M.outTo (M.runTo s inp (M.bz s 2)) s (4 + 3 * M.bz s 2) (M.bz s 3) = M.evalOut s inp) := rfl
  have HR1 := hide (hr1.mono ((Below.refl _ _).alloc (Nat.le_refl _) (.cells #[.int .i64 (M.bz s 1), .slice a1 (M.bz s 2) cap1, .slice a2 (M.bz s 3) cap2] 123)))
  have HR2 := hide (hr2.mono ((Below.refl _ _).alloc (Nat.le_refl _) (.cells #[.int .i64 (M.bz s 1), .slice a1 (M.bz s 2) cap1, .slice a2 (M.bz s 3) cap2] 123)))
  have HV := hide (M.runTo_vals s inp (M.bz s 2))
  clear hr1 hr2 h0 h6
  go_enter Tryz.func111, Tryz.ntmps111
  go_wp2_with fail
  refine (netValues_any s inp _ a1 a2 cap1 cap2 _ h heq h2 (unhide HR1)).mono ?_
  rintro e w2 ⟨v, rfl, hv, hb⟩
  have hb2 : w2.cell? ⟨w.heap.size, 2, none⟩ = some (.slice a2 (M.bz s 3) cap2) := (hb.cell (p := ⟨w.heap.size, 2, none⟩) (by simp)).trans (by simp)
  have HR := hide hv
  have HR2' := hide ((unhide HR2).mono hb)
  have hsz := hb.size
  simp only [World.size_alloc] at hsz
  have HB := hide (below_box (hb.mono (by simp)))
  clear hv hb heq h
  go_wp2_with fail
  refine (pick_any _ _ (M.runTo s inp (M.bz s 2)) s (4 + 3 * M.bz s 2) _ _ (unhide HV) (unhide HR) (unhide HR2') h5).mono ?_
  rintro e w1 ⟨rfl, hbF⟩
  have HB1 := hide ((unhide HB).trans (hbF.mono (by omega)))
  clear hbF hb2
  generalize M.outTo (M.runTo s inp (M.bz s 2)) s (4 + 3 * M.bz s 2) (M.bz s 3) = o at *
  go_wp2
  go_ret
  exact ⟨ret_string HFIN.out, unhide HB1⟩

def evalTxt (s inp : ByteArray) : ByteArray := if M.isImage s then (if inp.size = 2 * M.bz s 1 then M.evalOut s inp else ⟨#[]⟩) else ⟨#[]⟩
def evalNum (s inp : ByteArray) : Int := if M.isImage s then (if inp.size = 2 * M.bz s 1 then 0 else 2) else 1

theorem refEval_any (s inp : ByteArray) (w : World) (hs : s.size ≤ maxLen) (hi : inp.size ≤ maxLen) :
    Calls Tryz.prog 122 #[.string s, .string inp] w fun e w' => e = .returned (.tuple #[.string (evalTxt s inp), .int .i64 (evalNum s inp)]) ∧ Below w.heap.size w w' := by
  cases h : M.isImage s
  · have e1 : evalTxt s inp = ⟨#[]⟩ := by unfold evalTxt; rw [h]; rfl
    have e2 : evalNum s inp = 1 := by unfold evalNum; rw [h]; rfl
    rw [e1, e2]
    exact refEval_no s inp w hs h
  · by_cases hq : inp.size = 2 * M.bz s 1
    · have e1 : evalTxt s inp = M.evalOut s inp := by unfold evalTxt; rw [h, if_pos rfl, if_pos hq]
      have e2 : evalNum s inp = 0 := by unfold evalNum; rw [h, if_pos rfl, if_pos hq]
      rw [e1, e2]
      exact refEval_yes s inp w hs h hq
    · have e1 : evalTxt s inp = ⟨#[]⟩ := by unfold evalTxt; rw [h, if_pos rfl, if_neg hq]
      have e2 : evalNum s inp = 2 := by unfold evalNum; rw [h, if_pos rfl, if_neg hq]
      rw [e1, e2]
      exact refEval_input s inp w hs hi h hq

theorem ret_two {a b : ByteArray} {c d : Int} (h1 : a = b) (h2 : c = d) : Ending.returned (.tuple #[.string a, .int .i64 c]) = .returned (.tuple #[.string b, .int .i64 d]) := by rw [h1, h2]

theorem netAnswer_any (s inp : ByteArray) (w : World) (hs : s.size ≤ maxLen) (hi : inp.size ≤ maxLen) :
    Calls Tryz.prog 78 #[.string s, .string inp] w fun e w' => e = .returned (.tuple #[.string (evalTxt s inp), .int .i64 (evalNum s inp)]) ∧ Below w.heap.size w w' := by
  cases h : M.isImage s
  · have e1 : Hid (evalTxt s inp = ⟨#[]⟩) := by unfold evalTxt; rw [h]; rfl
    have e2 : Hid (evalNum s inp = 1) := by unfold evalNum; rw [h]; rfl
    go_enter Tryz.func78, Tryz.ntmps78
    go_wp2_with fail
    refine (parse_no s _ hs h).mono ?_
    clear h
    rintro e w' ⟨rfl, hb⟩
    go_wp2
    go_ret2
    exact ⟨ret_two e1.out.symm e2.out.symm, hb.alloc hb.size _⟩
  · have bz1 := M.bz_lt s 1
    by_cases hq : inp.size = 2 * M.bz s 1
    · have e1 : Hid (evalTxt s inp = M.evalOut s inp) := by unfold evalTxt; rw [h, if_pos rfl, if_pos hq]; rfl
      have e2 : Hid (evalNum s inp = 0) := by unfold evalNum; rw [h, if_pos rfl, if_pos hq]; rfl
      have HQ := hide hq
      clear hq
      go_enter Tryz.func78, Tryz.ntmps78
      go_wp2_with fail
      refine (parse_ok s _ hs h).mono ?_
      have HH := hide h
      clear h
      rintro e w1 ⟨a1, cap1, a2, cap2, rfl, hr1, hr2, hb⟩
      have HB := hide hb
      have HR1 := hide (hr1.mono ((Below.refl _ _).alloc (Nat.le_refl _) (.cells #[.int .i64 (M.bz s 1), .slice a1 (M.bz s 2) cap1, .slice a2 (M.bz s 3) cap2] 123)))
      have HR2 := hide (hr2.mono ((Below.refl _ _).alloc (Nat.le_refl _) (.cells #[.int .i64 (M.bz s 1), .slice a1 (M.bz s 2) cap1, .slice a2 (M.bz s 3) cap2] 123)))
      have hsz := hb.size
      clear hb hr1 hr2
      go_wp2_with fail
      refine (takes_any _ _ _ inp _ (by omega) hi).mono ?_
      rintro e w2 ⟨rfl, hb2⟩
      rw [show decide (inp.size = 2 * M.bz s 1) = true from decide_eq_true HQ.out]
      have c0 : w2.cell? ⟨w1.heap.size, 0, none⟩ = some (.int .i64 (M.bz s 1)) := (hb2.cell (p := ⟨w1.heap.size, 0, none⟩) (by simp)).trans (by simp)
      have c1 : w2.cell? ⟨w1.heap.size, 1, none⟩ = some (.slice a1 (M.bz s 2) cap1) := (hb2.cell (p := ⟨w1.heap.size, 1, none⟩) (by simp)).trans (by simp)
      have c2 : w2.cell? ⟨w1.heap.size, 2, none⟩ = some (.slice a2 (M.bz s 3) cap2) := (hb2.cell (p := ⟨w1.heap.size, 2, none⟩) (by simp)).trans (by simp)
      have HS1 := hide ((unhide HR1).mono hb2)
      have HS2 := hide ((unhide HR2).mono hb2)
      have HB2 : Hid (Below w.heap.size w w2) := ((unhide HB).alloc hsz _).trans (hb2.mono (by simp; omega))
      have hsz2 := hb2.size
      simp only [World.size_alloc] at hsz2
      clear hb2
      go_wp2_with fail
      refine (netEval_any s inp a1 a2 cap1 cap2 _ (unhide HH) (unhide HQ) (unhide HS1) (unhide HS2)).mono ?_
      rintro e w3 ⟨rfl, hb3⟩
      have HB3 := hide ((unhide HB2).trans (hb3.mono (by omega)))
      clear hb3
      go_wp2
      go_ret2
      exact ⟨ret_two e1.out.symm e2.out.symm, unhide HB3⟩
    · have e1 : Hid (evalTxt s inp = ⟨#[]⟩) := by unfold evalTxt; rw [h, if_pos rfl, if_neg hq]; rfl
      have e2 : Hid (evalNum s inp = 2) := by unfold evalNum; rw [h, if_pos rfl, if_neg hq]; rfl
      have HQ := hide hq
      clear hq
      go_enter Tryz.func78, Tryz.ntmps78
      go_wp2_with fail
      refine (parse_ok s _ hs h).mono ?_
      clear h
      rintro e w1 ⟨a1, cap1, a2, cap2, rfl, hr1, hr2, hb⟩
      have HB := hide hb
      have hsz := hb.size
      clear hb hr1 hr2
      go_wp2_with fail
      refine (takes_any _ _ _ inp _ (by omega) hi).mono ?_
      rintro e w2 ⟨rfl, hb2⟩
      rw [show decide (inp.size = 2 * M.bz s 1) = false from decide_eq_false HQ.out]
      have HB2 : Hid (Below w.heap.size w w2) := ((unhide HB).alloc hsz _).trans (hb2.mono (by simp; omega))
      clear hb2
      go_wp2
      go_ret2
      exact ⟨ret_two e1.out.symm e2.out.symm, unhide HB2⟩

theorem slotsEval_any (s inp : ByteArray) (w : World) (hs : s.size ≤ maxLen) (hi : inp.size ≤ maxLen) :
    Calls Tryz.prog 59 #[.string s, .string inp] w fun e w' => e = .returned (.tuple #[.string (evalTxt s inp), .int .i64 (evalNum s inp)]) ∧ Below w.heap.size w w' := by
  go_enter Tryz.func59, Tryz.ntmps59
  go_wp2_with fail
  refine (netAnswer_any s inp _ hs hi).mono ?_
  rintro e w1 ⟨rfl, hb⟩
  generalize hx : evalTxt s inp = x at *
  generalize hy : evalNum s inp = y at *
  have HX := hide hx
  have HY := hide hy
  clear hx hy
  go_wp2
  refine bodyPost_ret (v := .tuple #[.string x, .int .i64 y]) (by simp [results, Tryz.results59, go_sem]) rfl ⟨ret_two HX.out.symm HY.out.symm, hb⟩

theorem num_any (n : Int) (w : World) : Calls Tryz.prog 63 #[.int .i64 n] w fun e w' => e = .returned (.int .i64 n) ∧ w = w' := by
  go_enter Tryz.func63, Tryz.ntmps63
  go_wp2
  go_ret
  exact ⟨rfl, rfl⟩
end Go.Proofs.YtjfmiomopfjecabGreat

/- The device's events in plain words. -/
namespace Go.Proofs.YtjfmiomopfjecabGreat.M

structure Dev where
  key : ByteArray
  F : Nat → Nat
  on : Bool
  wait : Nat
  next : Nat
  age : Nat
structure Ev where
  kind : Int
  n : Int
  text : ByteArray
  cut : Int
  torn : Int
structure Rp where
  err : Nat
  ver : Nat
  text : ByteArray
  ask : Int
/-- what an event comes to if the power does not fail -/
structure Plan where
  ws : List Wr
  err : Nat
  text : ByteArray
  ask : Int
  wait : Nat
  next : Nat
  age : Nat
  on : Bool
def idle (d : Dev) : Plan := ⟨[], 0, ⟨#[]⟩, -1, d.wait, d.next, d.age, d.on⟩
def fails (d : Dev) (e : Nat) : Plan := ⟨[], e, ⟨#[]⟩, -1, d.wait, d.next, d.age, d.on⟩

def boots (d : Dev) : Plan :=
  ⟨if fld d.F 2 = 2 then (if fld d.F 3 = 0 then [sameW d.F 0 0 0] else [sameW d.F 0 2 (fld d.F 3 - 1)]) else [], 0, ⟨#[]⟩, -1, 0, 1, 0, true⟩
/-- the new image, or why there is none -/
def builtN (F : Nat → Nat) : Nat × ByteArray :=
  let base := imgOf F (fld F 1)
  let patch := mk (mf F 4) fun j => F (80 + j)
  let s := patchTxt base patch (mf F 5)
  let at_ := 8 + 2 * chunksN (mf F 4)
  if patchNum base patch (mf F 5) ≠ 0 then (4, ⟨#[]⟩)
  else if crc s.data.toList ≠ mf F 6 * 256 + mf F 7 then (15, ⟨#[]⟩)
  else if isImage s = false then (1, ⟨#[]⟩)
  else if mf F at_ = 1 ∧ (evalNum s (mk (mf F (at_ + 1)) fun j => mf F (at_ + 3 + j)) ≠ 0 ∨ evalTxt s (mk (mf F (at_ + 1)) fun j => mf F (at_ + 3 + j)) ≠ mk (mf F (at_ + 2)) fun j => mf F (at_ + 3 + mf F (at_ + 1) + j)) then (16, ⟨#[]⟩)
  else (0, s)
def slotW (slot : Nat) (s : ByteArray) : List Wr := (List.range (chunksN s.size)).map fun i => textW (11 + 6 * slot + i) s (16 * i)
def installs (d : Dev) : Plan :=
  if (builtN d.F).1 ≠ 0 then ⟨[sameW d.F 0 0 (fld d.F 3)], (builtN d.F).1, ⟨#[]⟩, -1, d.wait, d.next, d.age, d.on⟩
  else
    ⟨slotW (1 - fld d.F 1) (builtN d.F).2 ++
      [if 1 - fld d.F 1 = 0 then noteW d.F 0 1 2 3 (builtN d.F).2.size (fld d.F 5) (mf d.F 0) (mf d.F 1) (fld d.F 8) (fld d.F 9) 0
       else noteW d.F 0 0 2 3 (fld d.F 4) (builtN d.F).2.size (fld d.F 6) (fld d.F 7) (mf d.F 0) (mf d.F 1) 0], 0, ⟨#[]⟩, -1, d.wait, d.next, 0, d.on⟩
def ticks (d : Dev) : Plan :=
  if fld d.F 2 = 2 then ⟨if 5 ≤ d.age + 1 then [sameW d.F 0 0 0] else [], 0, ⟨#[]⟩, -1, d.wait, d.next, d.age + 1, d.on⟩
  else if fld d.F 2 = 1 then
    match missing d.F with
    | [] => installs d
    | i :: _ => if d.wait ≤ 1 then ⟨[], 0, ⟨#[]⟩, i, d.next, min 8 (2 * d.next), d.age, d.on⟩ else ⟨[], 0, ⟨#[]⟩, -1, d.wait - 1, d.next, d.age, d.on⟩
  else idle d
def keptV (F : Nat → Nat) : Nat := verOf F (fld F 1)
def offers (d : Dev) (s : ByteArray) : Plan :=
  if fld d.F 2 = 2 then fails d 11
  else if isManifest d.key s = false then fails d 13
  else if bz s 0 * 256 + bz s 1 ≤ keptV d.F ∨ bz s 2 * 256 + bz s 3 ≠ keptV d.F then fails d 6
  else ⟨(if fld d.F 2 = 1 then [sameW d.F 0 0 (fld d.F 3)] else []) ++ [textW 2 s 0, textW 3 s 16, textW 4 s 32] ++ [sameW d.F (if fld d.F 2 = 1 then 1 else 0) 1 (fld d.F 3)], 0, ⟨#[]⟩, -1, 0, 1, d.age, d.on⟩
def takes (d : Dev) (i : Int) (s : ByteArray) : Plan :=
  if fld d.F 2 ≠ 1 then fails d 12
  else if i < 0 ∨ (chunksN (mf d.F 4) : Int) ≤ i ∨ s.size ≠ chunkLen (mf d.F 4) i.toNat ∨ crc s.data.toList ≠ mf d.F (8 + 2 * i.toNat) * 256 + mf d.F (9 + 2 * i.toNat) then fails d 14
  else if fld d.F 10 / 2 ^ i.toNat % 2 = 1 then idle d
  else ⟨[textW (5 + i.toNat) s 0, noteW d.F 0 (fld d.F 1) 1 (fld d.F 3) (fld d.F 4) (fld d.F 5) (fld d.F 6) (fld d.F 7) (fld d.F 8) (fld d.F 9) (fld d.F 10 + 2 ^ i.toNat)], 0, ⟨#[]⟩, -1, 0, 1, d.age, d.on⟩
def confirms (d : Dev) : Plan :=
  if fld d.F 2 ≠ 2 then fails d 12
  else ⟨[noteW d.F 0 (1 - fld d.F 1) 0 0 (fld d.F 4) (fld d.F 5) (fld d.F 6) (fld d.F 7) (fld d.F 8) (fld d.F 9) 0], 0, ⟨#[]⟩, -1, d.wait, d.next, d.age, d.on⟩
def infers (d : Dev) (s : ByteArray) : Plan := ⟨[], (evalNum (imgOf d.F (servedD d.F)) s).toNat, evalTxt (imgOf d.F (servedD d.F)) s, -1, d.wait, d.next, d.age, d.on⟩
def planned (d : Dev) (e : Ev) : Plan :=
  if e.kind < 1 ∨ 7 < e.kind then fails d 7
  else if e.kind = 2 ∧ d.on = true then fails d 9
  else if e.kind ≠ 2 ∧ d.on = false then fails d 8
  else if e.kind = 1 then { idle d with on := false }
  else if e.kind = 2 then boots d
  else if e.kind = 3 then ticks d
  else if e.kind = 4 then infers d e.text
  else if e.kind = 5 then offers d e.text
  else if e.kind = 6 then takes d e.n e.text
  else confirms d
/-- does the power fail? -/
def cuts (e : Ev) (l : List Wr) : Bool := decide (0 ≤ e.cut ∧ e.cut < l.length)
def tornN (t : Int) : Nat := min 16 t.toNat
theorem tornN_le (t : Int) : tornN t ≤ 16 := Nat.min_le_left _ _
def doM (d : Dev) (e : Ev) : Dev × Rp :=
  if cuts e (planned d e).ws = true then
    ({ d with F := cutAt d.F (planned d e).ws e.cut.toNat (tornN e.torn), on := false }, ⟨10, 0, ⟨#[]⟩, -1⟩)
  else
    (⟨d.key, puts d.F (planned d e).ws, (planned d e).on, (planned d e).wait, (planned d e).next, (planned d e).age⟩,
     ⟨(planned d e).err, if (planned d e).err = 0 ∧ (planned d e).on = true then verOf (puts d.F (planned d e).ws) (servedD (puts d.F (planned d e).ws)) else 0, (planned d e).text, (planned d e).ask⟩)

/-- what stands in a device's flash when it is as it should be -/
structure Good (key : ByteArray) (F : Nat → Nat) : Prop where
  bytes : ∀ j, F j < 256
  kept : fld F 1 ≤ 1
  phase : fld F 2 ≤ 2
  tries : fld F 3 ≤ 3
  len0 : fld F 4 ≤ 96
  len1 : fld F 5 ≤ 96
  old : isImage (imgOf F (fld F 1)) = true
  new : fld F 2 = 2 → isImage (imgOf F (1 - fld F 1)) = true
  man : fld F 2 = 1 → ∃ at_, sealOf (mf F) 48 = some at_
/-- the device between two events -/
def Inv (d : Dev) : Prop := (∃ w N, RecIs d.F w N) ∧ Good d.key d.F ∧ d.wait ≤ 8 ∧ 1 ≤ d.next ∧ d.next ≤ 8 ∧ d.age ≤ 5
theorem put_bytes {F : Nat → Nat} {p t : Nat} {s : Nat → Nat} (h : ∀ j, F j < 256) (hs : ∀ i, i < t → s i < 256) : ∀ j, put F p s t j < 256 := by
  intro j
  unfold put
  split
  · rename_i hc
    exact hs _ (by omega)
  · exact h j
theorem puts_bytes {F : Nat → Nat} {l : List Wr} (h : ∀ j, F j < 256) (hl : ∀ x ∈ l, ∀ i, i < 16 → x.2 i < 256) : ∀ j, puts F l j < 256 := by
  induction l generalizing F with
  | nil => exact h
  | cons x l ih =>
    rw [puts_cons]
    exact ih (put_bytes h (hl x (by simp))) (fun y hy => hl y (by simp [hy]))
theorem cut_bytes {F : Nat → Nat} {l : List Wr} {c t : Nat} (h : ∀ j, F j < 256) (hl : ∀ x ∈ l, ∀ i, i < 16 → x.2 i < 256) (ht : t ≤ 16) : ∀ j, cutAt F l c t j < 256 := by
  by_cases hc : c < l.length
  · rw [cutAt_in hc]
    exact put_bytes (puts_bytes h (fun x hx => hl x (List.mem_of_mem_take hx))) (fun i hi => hl _ (List.getElem_mem hc) i (by omega))
  · rw [cutAt_all (by omega)]
    exact puts_bytes h hl
end Go.Proofs.YtjfmiomopfjecabGreat.M

/- What stays so whatever happens to a device: the record is whole, what is kept and what is served are images. -/
namespace Go.Proofs.YtjfmiomopfjecabGreat.M

theorem imgOf_same {F F' : Nat → Nat} {slot : Nat} (hl : fld F' (4 + slot) = fld F (4 + slot)) (hle : fld F (4 + slot) ≤ 96) (h : ∀ j, j < 96 → F' (16 * (11 + 6 * slot) + j) = F (16 * (11 + 6 * slot) + j)) : imgOf F' slot = imgOf F slot := by
  unfold imgOf
  rw [hl]
  exact mk_congr fun j hj => h j (by omega)
theorem sealOf_same {g g' : Nat → Nat} {L : Nat} (h : ∀ j, j < 48 → g' j = g j) : sealOf g' L = sealOf g L := by
  unfold sealOf
  rw [h 4 (by omega), h 5 (by omega)]
  by_cases h1 : L ≤ 5 ∨ g 4 < 1 ∨ 96 < g 4 ∨ g 5 < 1 ∨ 96 < g 5
  · rw [if_pos h1, if_pos h1]
  · have hc : chunksN (g 4) ≤ 6 := by unfold chunksN; omega
    rw [h (8 + 2 * chunksN (g 4)) (by omega), h (9 + 2 * chunksN (g 4)) (by omega), h (10 + 2 * chunksN (g 4)) (by omega)]
theorem sealOf_more {g : Nat → Nat} {L L' at_ : Nat} (h : sealOf g L = some at_) (hL : L ≤ L') : sealOf g L' = some at_ := by
  unfold sealOf at *
  by_cases h1 : L ≤ 5 ∨ g 4 < 1 ∨ 96 < g 4 ∨ g 5 < 1 ∨ 96 < g 5
  · rw [if_pos h1] at h; cases h
  rw [if_neg h1] at h
  rw [if_neg (by omega)]
  by_cases h2 : L ≤ 8 + 2 * chunksN (g 4)
  · rw [if_pos h2] at h; cases h
  rw [if_neg h2] at h
  rw [if_neg (by omega)]
  by_cases h3 : g (8 + 2 * chunksN (g 4)) = 0
  · rw [if_pos h3] at h ⊢; exact h
  rw [if_neg h3] at h ⊢
  by_cases h4 : g (8 + 2 * chunksN (g 4)) = 1
  · rw [if_pos h4] at h ⊢
    by_cases h5 : L ≤ 8 + 2 * chunksN (g 4) + 2 ∨ 8 < g (9 + 2 * chunksN (g 4)) ∨ 8 < g (10 + 2 * chunksN (g 4))
    · rw [if_pos h5] at h; cases h
    · rw [if_neg h5] at h
      rw [if_neg (by omega)]
      exact h
  · rw [if_neg h4] at h; cases h
theorem man_seal {key s : ByteArray} (h : isManifest key s = true) : ∃ at_, sealOf (bz s) s.size = some at_ ∧ s.size = at_ + 2 ∧ bz s at_ * 256 + bz s (at_ + 1) = crc (key ++ mk at_ (bz s)).data.toList := by
  unfold isManifest at h
  cases e : sealOf (bz s) s.size with
  | none => rw [e] at h; cases h
  | some at_ =>
    rw [e] at h
    simp only [Bool.and_eq_true, decide_eq_true_eq] at h
    exact ⟨at_, rfl, h.1, h.2⟩
theorem man_size {key s : ByteArray} (h : isManifest key s = true) : s.size ≤ 41 := by
  obtain ⟨at_, h1, h2, _⟩ := man_seal h
  have := sealOf_le h1
  omega

/-- pages that an event may write while phase and kept slot are these -/
def Free (F : Nat → Nat) (os : List Wr) : Prop := ∀ x ∈ os, 2 ≤ x.1 ∧ x.1 ≤ 22 ∧ (x.1 < 11 + 6 * fld F 1 ∨ 17 + 6 * fld F 1 ≤ x.1) ∧ (fld F 2 = 1 → 5 ≤ x.1) ∧ (fld F 2 = 2 → x.1 ≤ 10)
theorem good_keeps {key : ByteArray} {F F' : Nat → Nat} {w N : Nat} {os : List Wr} (hg : Good key F) (hk : Keeps F F' w N os) (hb : ∀ j, F' j < 256) (hf : Free F os) : Good key F' := by
  have e := hk.2.1
  have h1 := hg.kept
  have h4 := hg.len0
  have h5 := hg.len1
  have hlen : ∀ slot, slot ≤ 1 → fld F (4 + slot) ≤ 96 := by
    intro slot hs
    have hc : slot = 0 ∨ slot = 1 := by omega
    rcases hc with rfl | rfl
    · exact h4
    · exact h5
  have himg : ∀ slot, slot ≤ 1 → (∀ x ∈ os, x.1 < 11 + 6 * slot ∨ 17 + 6 * slot ≤ x.1) → imgOf F' slot = imgOf F slot := by
    intro slot hs hx
    refine imgOf_same (e _ (by omega)) (hlen slot hs) fun j hj => hk.2.2 _ (by omega) fun x hxo => ?_
    have := hx x hxo
    omega
  refine ⟨hb, by rw [e 1 (by omega)]; exact h1, by rw [e 2 (by omega)]; exact hg.phase, by rw [e 3 (by omega)]; exact hg.tries, by rw [e 4 (by omega)]; exact h4, by rw [e 5 (by omega)]; exact h5, ?_, ?_, ?_⟩
  · rw [e 1 (by omega), himg _ h1 (fun x hx => (hf x hx).2.2.1)]
    exact hg.old
  · rw [e 1 (by omega), e 2 (by omega)]
    intro h2
    rw [himg _ (by omega) (fun x hx => by have := (hf x hx).2.2.2.2 h2; omega)]
    exact hg.new h2
  · rw [e 2 (by omega)]
    intro h2
    obtain ⟨at_, ha⟩ := hg.man h2
    refine ⟨at_, ?_⟩
    rw [sealOf_same (g := mf F)]
    · exact ha
    · intro j hj
      exact hk.2.2 _ (by omega) fun x hx => by have := (hf x hx).2.2.2.1 h2; omega

/-- a page's bytes are bytes -/
def Bts (x : Wr) : Prop := ∀ i, i < 16 → x.2 i < 256
theorem textW_bytes (p : Nat) (s : ByteArray) (f : Nat) : Bts (textW p s f) := fun _ _ => bz_lt _ _
theorem ite_lt {c : Prop} [Decidable c] {x y B : Nat} (hx : x < B) (hy : y < B) : (if c then x else y) < B := by
  split
  · exact hx
  · exact hy
theorem recB_bytes {num kept phase tries l0 l1 a b c d there : Nat} (h0 : num < 256) (h1 : kept < 256) (h2 : phase < 256) (h3 : tries < 256) (h4 : l0 < 256) (h5 : l1 < 256) (h6 : a < 256) (h7 : b < 256) (h8 : c < 256) (h9 : d < 256) (h10 : there < 256) (p : Nat) : Bts (p, recB num kept phase tries l0 l1 a b c d there) := by
  intro i _
  show recB num kept phase tries l0 l1 a b c d there i < 256
  unfold recB
  exact ite_lt h0 (ite_lt h1 (ite_lt h2 (ite_lt h3 (ite_lt h4 (ite_lt h5 (ite_lt h6 (ite_lt h7 (ite_lt h8 (ite_lt h9 (ite_lt h10 (ite_lt h0 (by decide))))))))))))
/-- pages, then a record, cut anywhere or not at all -/
theorem inv_record {key : ByteArray} {F : Nat → Nat} {w N : Nat} (hr : RecIs F w N) (hg : Good key F) (os : List Wr) (hf : Free F os) (hb : ∀ x ∈ os, Bts x) {kept phase tries l0 l1 a b c d there : Nat}
    (hrb : Bts (1 - w, recB ((N + 1) % 256) kept phase tries l0 l1 a b c d there))
    (hnew : (∀ j, puts F (os ++ [(1 - w, recB ((N + 1) % 256) kept phase tries l0 l1 a b c d there)]) j < 256) → Good key (puts F (os ++ [(1 - w, recB ((N + 1) % 256) kept phase tries l0 l1 a b c d there)]))) (k t : Nat) (ht : t ≤ 16) :
    (∃ w' N', RecIs (cutAt F (os ++ [(1 - w, recB ((N + 1) % 256) kept phase tries l0 l1 a b c d there)]) k t) w' N') ∧ Good key (cutAt F (os ++ [(1 - w, recB ((N + 1) % 256) kept phase tries l0 l1 a b c d there)]) k t) := by
  have hall : ∀ x ∈ os ++ [((1 - w, recB ((N + 1) % 256) kept phase tries l0 l1 a b c d there) : Wr)], ∀ i, i < 16 → x.2 i < 256 := by
    intro x hx
    rcases List.mem_append.1 hx with h | h
    · exact hb x h
    · simp only [List.mem_cons, List.not_mem_nil, or_false] at h
      subst h
      exact hrb
  rcases cut_cases hr os (fun x hx => (hf x hx).1) kept phase tries l0 l1 a b c d there k t ht with h | h
  · rw [h]
    exact ⟨⟨_, _, (all_written hr os (fun x hx => (hf x hx).1) kept phase tries l0 l1 a b c d there).1⟩, hnew (puts_bytes hg.bytes hall)⟩
  · exact ⟨⟨_, _, h.1⟩, good_keeps hg h (cut_bytes hg.bytes hall ht) hf⟩
/-- the same, all written -/
theorem inv_written {key : ByteArray} {F : Nat → Nat} {w N : Nat} (hr : RecIs F w N) (hg : Good key F) (os : List Wr) (hf : Free F os) (hb : ∀ x ∈ os, Bts x) {kept phase tries l0 l1 a b c d there : Nat}
    (hrb : Bts (1 - w, recB ((N + 1) % 256) kept phase tries l0 l1 a b c d there))
    (hnew : (∀ j, puts F (os ++ [(1 - w, recB ((N + 1) % 256) kept phase tries l0 l1 a b c d there)]) j < 256) → Good key (puts F (os ++ [(1 - w, recB ((N + 1) % 256) kept phase tries l0 l1 a b c d there)]))) :
    (∃ w' N', RecIs (puts F (os ++ [(1 - w, recB ((N + 1) % 256) kept phase tries l0 l1 a b c d there)])) w' N') ∧ Good key (puts F (os ++ [(1 - w, recB ((N + 1) % 256) kept phase tries l0 l1 a b c d there)])) := by
  have h := inv_record hr hg os hf hb hrb hnew (os ++ [((1 - w, recB ((N + 1) % 256) kept phase tries l0 l1 a b c d there) : Wr)]).length 16 (Nat.le_refl _)
  rw [cutAt_all (Nat.le_refl _)] at h
  exact h
/-- a record that keeps lengths, versions and slots' pages: what it says must be so -/
theorem good_note {key : ByteArray} {F : Nat → Nat} {w N : Nat} (hr : RecIs F w N) (hg : Good key F) {kept phase tries a b c d there : Nat} (os : List Wr) (ho : ∀ x ∈ os, 2 ≤ x.1 ∧ x.1 ≤ 10)
    (hk : kept ≤ 1) (hp : phase ≤ 2) (ht : tries ≤ 3) (hold : isImage (imgOf F kept) = true) (hnew : phase = 2 → isImage (imgOf F (1 - kept)) = true) (hman : phase = 1 → ∃ at_, sealOf (mf (puts F os)) 48 = some at_)
    (hb : ∀ j, puts F (os ++ [(1 - w, recB ((N + 1) % 256) kept phase tries (fld F 4) (fld F 5) a b c d there)]) j < 256) :
    Good key (puts F (os ++ [(1 - w, recB ((N + 1) % 256) kept phase tries (fld F 4) (fld F 5) a b c d there)])) := by
  obtain ⟨_, e, hout⟩ := all_written hr os (fun x hx => (ho x hx).1) kept phase tries (fld F 4) (fld F 5) a b c d there
  have e1 := e 1 (by omega)
  have e2 := e 2 (by omega)
  have e3 := e 3 (by omega)
  have e4 := e 4 (by omega)
  have e5 := e 5 (by omega)
  have himg : ∀ slot, slot ≤ 1 → imgOf (puts F (os ++ [(1 - w, recB ((N + 1) % 256) kept phase tries (fld F 4) (fld F 5) a b c d there)])) slot = imgOf F slot := by
    intro slot hs
    have hc : slot = 0 ∨ slot = 1 := by omega
    have hl : fld (puts F (os ++ [(1 - w, recB ((N + 1) % 256) kept phase tries (fld F 4) (fld F 5) a b c d there)])) (4 + slot) = fld F (4 + slot) := by
      rcases hc with rfl | rfl
      · exact e4
      · exact e5
    refine imgOf_same hl ?_ fun j hj => ?_
    · rcases hc with rfl | rfl
      · exact hg.len0
      · exact hg.len1
    · rw [hout _ (by omega)]
      exact puts_out fun x hx => by have := ho x hx; omega
  generalize puts F (os ++ [(1 - w, recB ((N + 1) % 256) kept phase tries (fld F 4) (fld F 5) a b c d there)]) = G at *
  have f1 : fld G 1 = kept := e1
  have f2 : fld G 2 = phase := e2
  have f3 : fld G 3 = tries := e3
  have f4 : fld G 4 = fld F 4 := e4
  have f5 : fld G 5 = fld F 5 := e5
  refine ⟨hb, by rw [f1]; exact hk, by rw [f2]; exact hp, by rw [f3]; exact ht, by rw [f4]; exact hg.len0, by rw [f5]; exact hg.len1, ?_, ?_, ?_⟩
  · rw [f1, himg _ hk]; exact hold
  · rw [f1, f2, himg _ (by omega)]; exact hnew
  · rw [f2]
    intro h2
    obtain ⟨at_, ha⟩ := hman h2
    refine ⟨at_, ?_⟩
    rw [sealOf_same (g := mf (puts F os))]
    · exact ha
    · intro j hj
      exact hout _ (by omega)
end Go.Proofs.YtjfmiomopfjecabGreat.M

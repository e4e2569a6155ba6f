/- slotskeep's question, answers, input, behind. -/
import Derived.Test.YtjfmiomopfjecaaNodeNet
import Derived.Test.YtjfmiomopfjecaaNetEval
namespace Go.Proofs.Ytjfmiomopfjecaa
open Go.RowKit

theorem kQuestion_any (s inp : ByteArray) (w : World) (hs : 2 ≤ s.size) (hs2 : s.size ≤ 1000) (hi : inp.size ≤ maxLen) :
    Calls Try.prog 25 #[.string s, .string inp] w fun e w' => e = .returned (.string (M.bytesOf (M.fillL inp (2 * M.bz s 1)))) ∧ w = w' := by
  have p1 : 1 < s.size := by omega
  have q1 := M.bz_lt s 1
  have HE := hide (M.bz_at s 1 p1)
  have hq : (s[1]'p1).toNat < 256 := UInt8.toNat_lt _
  go_enter Try.func25, Try.ntmps25
  go_wp2_with fail
  rw [HE.out, show (2 * (M.bz s 1 : Int)) = ((2 * M.bz s 1 : Nat) : Int) from by omega]
  refine (kFill_any inp (2 * M.bz s 1) _ hi (by omega)).mono ?_
  rintro e w' ⟨rfl, rfl⟩
  generalize hr : M.bytesOf (M.fillL inp (2 * M.bz s 1)) = r at *
  have HR := hide hr
  clear hr
  go_wp2
  go_ret
  exact ⟨ret_string HR.out.symm, rfl⟩

theorem ret_tb {a : ByteArray} {c d : Bool} (h : c = d) : Ending.returned (.tuple #[.string a, .bool c]) = .returned (.tuple #[.string a, .bool d]) := by rw [h]
theorem evalOut_size (s inp : ByteArray) : (M.evalOut s inp).size = 2 * M.bz s 3 := M.outTo_size _ _ _ _
theorem kAnswers_any (s q : ByteArray) (w : World) (h : M.isImage s = true) (hq : q.size = 2 * M.bz s 1) :
    Calls Try.prog 26 #[.string s, .string q] w fun e w' => e = .returned (.tuple #[.string (M.evalOut s q), .bool true]) ∧ Below w.heap.size w w' := by
  obtain ⟨h0, h1, h2, h3, h4, h5, h6⟩ := M.headOk_eq (image_head h)
  have hs : s.size ≤ maxLen := by unfold maxLen; omega
  have hqs : q.size ≤ maxLen := by unfold maxLen; omega
  have e1 : evalTxt s q = M.evalOut s q := by unfold evalTxt; rw [h, if_pos rfl, if_pos hq]
  have e2 : evalNum s q = 0 := by unfold evalNum; rw [h, if_pos rfl, if_pos hq]
  have hc := fun w => slotsEval_any s q w hs hqs
  rw [e1, e2] at hc
  have HC := hide hc
  have p3 : 3 < s.size := by omega
  have hz := evalOut_size s q
  have hb3 := M.bz_at s 3 p3
  have hq3 : (s[3]'p3).toNat < 256 := UInt8.toNat_lt _
  have i3 : (3 : Int) < (s.size : Int) := by omega
  rw [← hb3] at hz
  generalize M.evalOut s q = r at *
  have hw : IntKind.i64.wrap ((s[3]'p3).toNat : Int) = ((s[3]'p3).toNat : Int) := IntWalk.i64_in _ ⟨by omega, by omega⟩
  have hw2 : IntKind.i64.wrap (2 * ((s[3]'p3).toNat : Int)) = 2 * ((s[3]'p3).toNat : Int) := IntWalk.i64_in _ ⟨by omega, by omega⟩
  have heq : ((r.size : Int) == 2 * ((s[3]'p3).toNat : Int)) = true := beq_iff_eq.2 (by omega)
  clear h h0 h6 e1 e2 hc hz hb3 hq
  go_enter Try.func26, Try.ntmps26
  go_wp2_with fail
  refine (unhide HC _).mono ?_
  rintro e w1 ⟨rfl, hb⟩
  go_wp2_with fail
  go_quiet (fail)
  go_wp2
  go_ret2
  exact ⟨ret_tb heq, below_drewN hb _⟩

theorem kInput_any (s q v : ByteArray) (x : Nat) (w : World) (hs : 2 ≤ s.size) (hs2 : s.size ≤ 1000) (hq : q.size = 2 * M.bz s 1) (hx : x ≤ 1000) (h : x < M.bz s 1 → v = q.extract (2 * x) (2 * x + 2)) :
    Calls Try.prog 27 #[.string s, .int .i64 x, .string q, .string v] w fun e w' => e = .returned (.bool true) ∧ w = w' := by
  have p1 : 1 < s.size := by omega
  have hb := M.bz_at s 1 p1
  have hq1 : (s[1]'p1).toNat < 256 := UInt8.toNat_lt _
  rw [← hb] at hq h
  clear hb
  by_cases hc : (s[1]'p1).toNat ≤ x
  · have hqq : q.size ≤ 2 * (s[1]'p1).toNat := by omega
    clear h hq
    go_enter Try.func27, Try.ntmps27
    go_wp2
    go_ret
    exact ⟨rfl, rfl⟩
  · have hv := h (by omega)
    have HV : Hid ((v.toList == (q.extract (2 * x) (2 * x + 2)).toList) = true) := by rw [hv]; simp; trivial
    have hqq : 2 * (s[1]'p1).toNat ≤ q.size := by omega
    have hqz : q.size ≤ 1000 := by omega
    clear h hq hv
    go_enter Try.func27, Try.ntmps27
    go_wp2
    go_ret
    exact ⟨ret_bool (by first | exact HV.out | simpa using HV.out), rfl⟩

/-- what the image of raw numbers is -/
theorem imageL_facts (i o : Int) (t s : ByteArray) :
    M.isImage (M.bytesOf (imageL i o t s)) = true ∧ M.bz (M.bytesOf (imageL i o t s)) 1 = inN i ∧ M.bz (M.bytesOf (imageL i o t s)) 2 = nodesN t ∧ M.bz (M.bytesOf (imageL i o t s)) 3 = inN o ∧ (M.bytesOf (imageL i o t s)).size = 4 + 3 * nodesN t + inN o := by
  have bi := inN_bd i
  have bo := inN_bd o
  have bm := nodesN_le t
  have hl := M.nodesL_length (fstT t 72) (inN i) (nodesN t)
  have ha := M.nodesL_all (fstT t 72) (inN i) (nodesN t)
  have ho := outsL_length (inN i) (nodesN t) s (inN o)
  have hao := outsL_all (inN i) (nodesN t) s (inN o)
  have hb := M.img_bz (n := inN i) (m := nodesN t) (o := inN o) bi.2 bm bo.2 ha hao
  refine ⟨?_, hb.1, hb.2.1, hb.2.2, M.img_size hl ho⟩
  refine M.img_isImage bi.1 bi.2 bm bo.1 bo.2 hl ho ha hao ?_ ?_
  · intro k hk
    have e0 := M.nodesL_at (fstT t 72) (inN i) (nodesN t) k 0 hk (by omega)
    have e1 := M.nodesL_at (fstT t 72) (inN i) (nodesN t) k 1 hk (by omega)
    have e2 := M.nodesL_at (fstT t 72) (inN i) (nodesN t) k 2 hk (by omega)
    rw [Nat.add_zero] at e0
    rw [e0, e1, e2]
    exact M.nodeL_ok (by omega)
  · intro j hj
    rw [outsL_getD _ _ _ _ _ hj]
    exact Nat.mod_lt _ (by omega)

/-- the same nodes with other outputs -/
def withOuts (i : Int) (t : ByteArray) (outs : List Nat) : List Nat := M.imgL (inN i) (nodesN t) outs.length (M.nodesL (fstT t 72) (inN i) (nodesN t)) outs
theorem nodes_ok (i : Int) (t : ByteArray) (k : Nat) (hk : k < nodesN t) : M.okOp ((M.nodesL (fstT t 72) (inN i) (nodesN t)).getD (3 * k) 0) ((M.nodesL (fstT t 72) (inN i) (nodesN t)).getD (3 * k + 1) 0) ((M.nodesL (fstT t 72) (inN i) (nodesN t)).getD (3 * k + 2) 0) (inN i + k) = true := by
  have bi := inN_bd i
  have e0 := M.nodesL_at (fstT t 72) (inN i) (nodesN t) k 0 hk (by omega)
  have e1 := M.nodesL_at (fstT t 72) (inN i) (nodesN t) k 1 hk (by omega)
  have e2 := M.nodesL_at (fstT t 72) (inN i) (nodesN t) k 2 hk (by omega)
  rw [Nat.add_zero] at e0
  rw [e0, e1, e2]
  exact M.nodeL_ok (by omega)
/-- one node more, which is the output -/
def behindL (i : Int) (t : ByteArray) (op a b : Nat) : List Nat := M.imgL (inN i) (nodesN t + 1) 1 (M.nodesL (fstT t 72) (inN i) (nodesN t) ++ [op, a, b]) [inN i + nodesN t]

theorem drop_take_img (n m o : Nat) (nodes outs : List Nat) (h : nodes.length = 3 * m) : ((M.imgL n m o nodes outs).drop 4).take (3 * m) = nodes := by
  unfold M.imgL
  show ((nodes ++ outs)).take (3 * m) = nodes
  rw [← h, List.take_left]
theorem take_img (n m o : Nat) (nodes outs : List Nat) (h : nodes.length = 3 * m) : ((M.imgL n m o nodes outs).drop 0).take (4 + 3 * m) = [77, n, m, o] ++ nodes := by
  unfold M.imgL
  rw [List.drop_zero, ← List.append_assoc, ← h]
  have : 4 + nodes.length = ([77, n, m, o] ++ nodes).length := by simp; omega
  rw [this, List.take_left]

set_option maxHeartbeats 1600000 in
theorem kBehind_any (i o : Int) (t s : ByteArray) (op a b : Nat) (w : World) (hi0 : -9223372036854775808 ≤ i) (hi1 : i ≤ 9223372036854775807) (ho0 : -9223372036854775808 ≤ o) (ho1 : o ≤ 9223372036854775807) (ht : t.size ≤ maxLen) (hs : s.size ≤ maxLen)
    (hop : op ≤ 255) (ha : a ≤ 255) (hb : b ≤ 255) :
    Calls Try.prog 30 #[.agg #[.int .i64 i, .int .i64 o, .string t, .string s], .int .i64 op, .int .i64 a, .int .i64 b] w fun e w' => e = .returned (.string (M.bytesOf (behindL i t op a b))) ∧ Below w.heap.size w w' := by
  obtain ⟨_, f1, f2, f3, f4⟩ := imageL_facts i o t s
  have bi := inN_bd i
  have bo := inN_bd o
  have bm := nodesN_le t
  have p1 : 1 < (M.bytesOf (imageL i o t s)).size := by omega
  have p2 : 2 < (M.bytesOf (imageL i o t s)).size := by omega
  have HCUT : Hid ((M.bytesOf (imageL i o t s)).extract 4 (4 + 3 * nodesN t) = M.bytesOf (M.nodesL (fstT t 72) (inN i) (nodesN t))) := by
    rw [M.bytesOf_extract, show 4 + 3 * nodesN t - 4 = 3 * nodesN t from by omega]
    unfold imageL
    rw [drop_take_img _ _ _ _ _ (M.nodesL_length _ _ _)]
    rfl
  have hnz : (M.bytesOf (M.nodesL (fstT t 72) (inN i) (nodesN t))).size = 3 * nodesN t := by rw [M.bytesOf_size, M.nodesL_length]
  have HIMG := hide (fun w => kImage_any i o t s w hi0 hi1 ho0 ho1 ht hs)
  rw [← M.bz_at _ 1 p1] at f1
  rw [← M.bz_at _ 2 p2] at f2
  have HEND : Hid (∀ N : ByteArray, N = M.bytesOf (M.nodesL (fstT t 72) (inN i) (nodesN t)) → ({ data := #[77] } : ByteArray) ++ M.bytesOf [inN i] ++ M.bytesOf [nodesN t + 1] ++ M.bytesOf [1] ++ N ++ M.bytesOf [op] ++ M.bytesOf [a] ++ M.bytesOf [b] ++ M.bytesOf [inN i + nodesN t] = M.bytesOf (behindL i t op a b)) := by
    intro N hN
    rw [hN, em_bytes]
    simp only [M.bytesOf_append]
    unfold behindL M.imgL
    simp
  generalize M.bytesOf (imageL i o t s) = I at *
  generalize inN i = n at *
  generalize inN o = c at *
  generalize nodesN t = m at *
  generalize M.bytesOf (M.nodesL (fstT t 72) n m) = N at *
  have HF1 := hide f1
  have HF2 := hide f2
  have hI1 : 4 + 3 * m + 1 ≤ I.size := by omega
  have hI2 : I.size ≤ 4 + 3 * m + 4 := by omega
  have hN1 : N.size ≤ 72 := by omega
  clear f1 f2 f3 f4 hnz
  have hos := one_size
  go_enter Try.func30, Try.ntmps30
  go_wp2_with fail
  refine (unhide HIMG _).mono ?_
  rintro e w1 ⟨rfl, hb1⟩
  have hz1 := hb1.size
  simp only [World.size_alloc] at hz1
  have hbB : Below w.heap.size w w1 := ((Below.refl _ _).alloc (Nat.le_refl _) _).trans (hb1.mono (by simp))
  clear hb1
  have q1 : (I[1]'p1).toNat < 256 := UInt8.toNat_lt _
  have q2 : (I[2]'p2).toNat < 256 := UInt8.toNat_lt _
  go_wp2_with fail
  rw [HF1.out, HF2.out]
  clear q1 q2
  have s1 : (4 : Int) ≤ 4 + 3 * (m : Int) := by omega
  have s2 : 4 + 3 * (m : Int) ≤ (I.size : Int) := by omega
  have s3 : (4 + 3 * (m : Int)).toNat = 4 + 3 * m := by omega
  have s4 := HCUT.out
  have u1 : IntKind.i64.wrap ((m : Int) + 1) = (m : Int) + 1 := IntWalk.i64_in _ ⟨by omega, by omega⟩
  have u2 : IntKind.i64.wrap ((n : Int) + (m : Int)) = (n : Int) + (m : Int) := IntWalk.i64_in _ ⟨by omega, by omega⟩
  have v1 : ((m : Int) + 1).toNat = m + 1 := by omega
  have v2 : ((n : Int) + (m : Int)).toNat = n + m := by omega
  have k0 : ¬ 9223372036854775807 < 4 + N.size := by omega
  have k1 : ¬ 9223372036854775807 < 4 + N.size + 1 := by omega
  have k2 : ¬ 9223372036854775807 < 4 + N.size + 1 + 1 := by omega
  have k3 : ¬ 9223372036854775807 < 4 + N.size + 1 + 1 + 1 := by omega
  have k4 : ¬ 9223372036854775807 < 4 + N.size + 1 + 1 + 1 + 1 := by omega
  go_region_held3 (fun _ => True) (first | trivial | (intros; trivial)) ((go_at_call 24; refine (kOne_cum _ _ (by omega) (by omega) (by first | exact hbN | exact hbB.drew)).mono ?_; rintro e w9 ⟨rfl, hbN⟩))
  clear k0 k1 k2 k3 k4 u1 u2
  go_wp2
  go_ret
  exact ⟨ret_string (HEND.out N rfl), hbN⟩
end Go.Proofs.Ytjfmiomopfjecaa

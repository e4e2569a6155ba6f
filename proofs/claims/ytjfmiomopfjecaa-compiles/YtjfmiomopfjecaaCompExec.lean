/- The code that Compile gives is a code, and does what the net does. -/
import Derived.Test.YtjfmiomopfjecaaCompMath
namespace Go.Proofs.Ytjfmiomopfjecaa.M

theorem opsL_a {op a b : Nat} (h : 0 < (opsL op a b).length) : a ∈ opsL op a b := by
  unfold opsL at *
  by_cases h0 : op = 0
  · rw [if_pos h0] at h; exact absurd h (by decide)
  · rw [if_neg h0] at *
    by_cases h5 : op ≤ 5
    · rw [if_pos h5]; simp
    · rw [if_neg h5] at *
      by_cases h7 : op ≤ 7
      · rw [if_pos h7]; simp
      · rw [if_neg h7] at h; exact absurd h (by decide)
theorem opsL_b {op a b : Nat} (h : 1 < (opsL op a b).length) : b ∈ opsL op a b := by
  unfold opsL at *
  by_cases h0 : op = 0
  · rw [if_pos h0] at h; exact absurd h (by decide)
  · rw [if_neg h0] at *
    by_cases h5 : op ≤ 5
    · rw [if_pos h5]; simp
    · rw [if_neg h5] at *
      by_cases h7 : op ≤ 7
      · rw [if_pos h7] at h; exact absurd h (by simp)
      · rw [if_neg h7] at h; exact absurd h (by decide)
theorem mvA_lt {s : ByteArray} (hs : isImage s = true) {k : Nat} (hk : k < bz s 2) : mvA s k < 256 := by
  obtain ⟨_, _, h2, h3, _⟩ := headOk_eq (image_headOk hs)
  unfold mvA
  split
  · rename_i h
    have := opsAt_lt hs hk _ (opsL_a h)
    have := cellOf_le s (bz s (5 + 3 * k)) k (by omega)
    omega
  · exact bz_lt _ _
theorem mvB_lt {s : ByteArray} (hs : isImage s = true) {k : Nat} (hk : k < bz s 2) : mvB s k < 256 := by
  obtain ⟨_, _, h2, h3, _⟩ := headOk_eq (image_headOk hs)
  unfold mvB
  split
  · rename_i h
    have := opsAt_lt hs hk _ (opsL_b h)
    have := cellOf_le s (bz s (6 + 3 * k)) k (by omega)
    omega
  · exact bz_lt _ _
theorem zeroRun_val (s : ByteArray) (v : Nat) : IsVal ((zeroRun s).getD v 0) := (runTo_vals s ⟨#[]⟩ (bz s 2)).getD v
theorem inA_lt {s : ByteArray} (hs : isImage s = true) {k : Nat} (hk : k < bz s 2) : inA s k < 256 := by
  have := unword_bd (zeroRun_val s (bz s 1 + k))
  unfold inA
  split
  · omega
  · exact mvA_lt hs hk
theorem inB_lt {s : ByteArray} (hs : isImage s = true) {k : Nat} (hk : k < bz s 2) : inB s k < 256 := by
  have := unword_bd (zeroRun_val s (bz s 1 + k))
  unfold inB
  split
  · omega
  · exact mvB_lt hs hk
theorem inOp_lt (s : ByteArray) (k : Nat) : inOp s k < 256 := by
  unfold inOp
  split
  · omega
  · exact bz_lt _ _
theorem stepsT_all {s : ByteArray} (hs : isImage s = true) (k : Nat) (hk : k ≤ bz s 2) : AllB (stepsT s k) := by
  obtain ⟨_, _, h2, h3, _⟩ := headOk_eq (image_headOk hs)
  induction k with
  | zero => intro x hx; cases hx
  | succ k ih =>
    rw [stepsT]
    split
    · refine (ih (by omega)).append ?_
      have h1 := inOp_lt s k
      have h4 := inA_lt hs (k := k) (by omega)
      have h5 := inB_lt hs (k := k) (by omega)
      have h6 := cnt_le s k
      intro x hx
      simp only [stepL, List.mem_cons, List.not_mem_nil, or_false] at hx
      omega
    · exact ih (by omega)
theorem codeL_all {s : ByteArray} (hs : isImage s = true) : AllB (codeL s) := by
  obtain ⟨_, _, h2, h3, _, h5, _⟩ := headOk_eq (image_headOk hs)
  have h6 := cnt_le s (bz s 2)
  unfold codeL
  refine AllB.append ?_ (AllB.append ?_ (stepsT_all hs _ (Nat.le_refl _)))
  · intro x hx
    simp only [List.mem_cons, List.not_mem_nil, or_false] at hx
    omega
  · intro x hx
    simp only [outL, List.map_map, List.mem_map, List.mem_range, Function.comp] at hx
    obtain ⟨j, hj, rfl⟩ := hx
    have := image_outOk hs hj
    have := cellOf_le s (bz s (4 + 3 * bz s 2 + j)) (bz s 2) (by omega)
    omega
theorem codeL_length (s : ByteArray) : (codeL s).length = 5 + bz s 3 + 4 * cnt s (bz s 2) := by
  unfold codeL
  rw [List.length_append, List.length_append, stepsT_length]
  simp [outL]
  omega
theorem codeT_size (s : ByteArray) : (codeT s).size = 5 + bz s 3 + 4 * cnt s (bz s 2) := by unfold codeT; rw [bytesOf_size, codeL_length]
theorem codeT_bz {s : ByteArray} (hs : isImage s = true) (i : Nat) : bz (codeT s) i = (codeL s).getD i 0 := bz_bytesOf (codeL_all hs) i
theorem code_head {s : ByteArray} (hs : isImage s = true) : bz (codeT s) 0 = 75 ∧ bz (codeT s) 1 = bz s 1 ∧ bz (codeT s) 2 = bz s 1 + cnt s (bz s 2) ∧ bz (codeT s) 3 = bz s 3 ∧ bz (codeT s) 4 = cnt s (bz s 2) := by
  refine ⟨?_, ?_, ?_, ?_, ?_⟩ <;> rw [codeT_bz hs] <;> rfl
theorem code_out {s : ByteArray} (hs : isImage s = true) {j : Nat} (hj : j < bz s 3) : bz (codeT s) (5 + j) = cellOf s (bz s (4 + 3 * bz s 2 + j)) := by
  rw [codeT_bz hs]
  unfold codeL
  rw [getD_append_right (by simp), getD_append_left (by simp [outL]; omega)]
  simp [outL, hj]
theorem code_step {s : ByteArray} (hs : isImage s = true) {k c : Nat} (hk : k < bz s 2) (hn : bz s 1 + k ∈ needA s) (hc : c < 4) : bz (codeT s) (stepAt (codeT s) (cnt s k) + c) = (stepL s k).getD c 0 := by
  rw [codeT_bz hs]
  unfold stepAt
  rw [(code_head hs).2.2.2.1]
  unfold codeL
  rw [getD_append_right (by simp; omega), getD_append_right (by simp [outL]; omega)]
  rw [← stepsT_at hk hn hc]
  congr 1
  simp [outL]
  omega
theorem need_okv {s : ByteArray} {v : Nat} (h : v ∈ needA s) : v < bz s 1 ∨ v ∈ needA s := .inr h
theorem opsAt_of5 {s : ByteArray} {k : Nat} (h0 : bz s (4 + 3 * k) ≠ 0) (h5 : bz s (4 + 3 * k) ≤ 5) : opsAt s k = [bz s (5 + 3 * k), bz s (6 + 3 * k)] := by
  unfold opsAt opsL
  rw [if_neg h0, if_pos h5]
theorem opsAt_of7 {s : ByteArray} {k : Nat} (h5 : ¬ bz s (4 + 3 * k) ≤ 5) (h7 : bz s (4 + 3 * k) ≤ 7) : opsAt s k = [bz s (5 + 3 * k)] := by
  unfold opsAt opsL
  rw [if_neg (by omega), if_neg h5, if_pos h7]
theorem okOp_seven {op a b v : Nat} (h : okOp op a b v = true) : op ≤ 7 := by
  unfold okOp at h
  by_cases h0 : op = 0
  · omega
  rw [if_neg h0] at h
  by_cases h5 : op ≤ 5
  · omega
  rw [if_neg h5] at h
  by_cases h6 : op = 6
  · omega
  rw [if_neg h6] at h
  simp only [Bool.and_eq_true, decide_eq_true_eq] at h
  omega
/-- an instruction's operands are cells -/
theorem step_okOp {s : ByteArray} (hs : isImage s = true) {k : Nat} (hk : k < bz s 2) (hn : bz s 1 + k ∈ needA s) : okOp (inOp s k) (inA s k) (inB s k) (bz s 1 + cnt s (bz s 2)) = true := by
  by_cases hf : bz s 1 + k ∈ fixA s
  · have : inOp s k = 0 := if_pos hf
    rw [this]; rfl
  · have e1 : inOp s k = bz s (4 + 3 * k) := if_neg hf
    have e2 : inA s k = mvA s k := if_neg hf
    have e3 : inB s k = mvB s k := if_neg hf
    have hok := image_okOp hs hk
    have h0 := fix_const hs hk hf
    have h7 := okOp_seven hok
    have hnd := need_ops hs hk hn hf
    have hlt := opsAt_lt hs hk
    rw [e1, e2, e3]
    by_cases h5 : bz s (4 + 3 * k) ≤ 5
    · have eo := opsAt_of5 h0 h5
      rw [eo] at hnd hlt
      have ea := hnd (bz s (5 + 3 * k)) (by simp)
      have eb := hnd (bz s (6 + 3 * k)) (by simp)
      have la := hlt (bz s (5 + 3 * k)) (by simp)
      have lb := hlt (bz s (6 + 3 * k)) (by simp)
      have ca := cellOf_lt (k := bz s 2) (.inr ea) (by omega)
      have cb := cellOf_lt (k := bz s 2) (.inr eb) (by omega)
      unfold mvA mvB
      rw [eo]
      unfold okOp
      rw [if_neg h0, if_pos h5]
      simp [ca, cb]
    · have eo := opsAt_of7 h5 h7
      rw [eo] at hnd hlt
      have ea := hnd (bz s (5 + 3 * k)) (by simp)
      have la := hlt (bz s (5 + 3 * k)) (by simp)
      have ca := cellOf_lt (k := bz s 2) (.inr ea) (by omega)
      unfold mvA mvB
      rw [eo]
      unfold okOp at hok ⊢
      rw [if_neg h0, if_neg h5] at hok ⊢
      by_cases h6 : bz s (4 + 3 * k) = 6
      · rw [if_pos h6] at hok ⊢
        simp only [Bool.and_eq_true, decide_eq_true_eq] at hok
        simp [ca, hok.2]
      · rw [if_neg h6] at hok ⊢
        simp only [Bool.and_eq_true, decide_eq_true_eq] at hok
        simp [ca, hok.1, hok.2.2]
theorem code_isCode {s : ByteArray} (hs : isImage s = true) : isCode (codeT s) = true := by
  obtain ⟨_, h1, h2, h3, h4, h5, _⟩ := headOk_eq (image_headOk hs)
  obtain ⟨c0, c1, c2, c3, c4⟩ := code_head hs
  have h6 := cnt_le s (bz s 2)
  have hz := codeT_size s
  unfold isCode
  rw [Bool.and_eq_true, Bool.and_eq_true]
  refine ⟨decide_eq_true ?_, ?_, ?_⟩
  · rw [c0, c1, c2, c3, c4, hz]; omega
  · unfold cOuts
    rw [List.all_eq_true]
    intro j hj
    rw [List.mem_range, c3] at hj
    rw [code_out hs hj, c2]
    refine decide_eq_true ?_
    refine cellOf_lt (.inr (need_out hj)) (image_outOk hs hj)
  · unfold cSteps
    rw [List.all_eq_true]
    intro q hq
    rw [List.mem_range, c4] at hq
    obtain ⟨k, hk, hn, rfl⟩ := cnt_find hq
    unfold stepOk
    have e0 := code_step hs hk hn (c := 0) (by omega)
    have e1 := code_step hs hk hn (c := 1) (by omega)
    have e2 := code_step hs hk hn (c := 2) (by omega)
    have e3 := code_step hs hk hn (c := 3) (by omega)
    rw [Nat.add_zero] at e0
    rw [e0, e1, e2, e3, c2]
    show (okOp (inOp s k) (inA s k) (inB s k) (bz s 1 + cnt s (bz s 2)) && decide (bz s 1 + cnt s k < bz s 1 + cnt s (bz s 2))) = true
    rw [step_okOp hs hk hn, Bool.true_and]
    have := cnt_lt hk hn
    exact decide_eq_true (by omega)

/- the values -/
theorem getI_left {l r : List Int} {i : Nat} (h : i < l.length) : (l ++ r).getD i 0 = l.getD i 0 := by
  rw [List.getD_eq_getElem?_getD, List.getD_eq_getElem?_getD, List.getElem?_append_left h]
theorem runTo_keep (s inp : ByteArray) (k j v : Nat) (hv : v < bz s 1 + k) : (runTo s inp (k + j)).getD v 0 = (runTo s inp k).getD v 0 := by
  induction j with
  | zero => rfl
  | succ j ih => rw [← Nat.add_assoc, runTo, getI_left (by rw [runTo_length]; omega), ih]
theorem run_at {s : ByteArray} (hs : isImage s = true) (inp : ByteArray) {k : Nat} (hk : k < bz s 2) : (runTo s inp (bz s 2)).getD (bz s 1 + k) 0 = nodeVal (runTo s inp (bz s 2)) (bz s (4 + 3 * k)) (bz s (5 + 3 * k)) (bz s (6 + 3 * k)) := by
  have e := runTo_keep s inp (k + 1) (bz s 2 - (k + 1)) (bz s 1 + k) (by omega)
  rw [show k + 1 + (bz s 2 - (k + 1)) = bz s 2 from by omega] at e
  rw [e, runTo_last]
  refine nodeVal_congr (image_okOp hs hk) fun x hx => ?_
  have e2 := runTo_keep s inp k (bz s 2 - k) x (opsAt_lt hs hk x hx)
  rw [show k + (bz s 2 - k) = bz s 2 from by omega] at e2
  exact e2.symm
theorem fix_same {s : ByteArray} (hs : isImage s = true) (inp : ByteArray) (k : Nat) (hk : k ≤ bz s 2) : ∀ x ∈ fixL s k, (runTo s inp (bz s 2)).getD x 0 = (zeroRun s).getD x 0 := by
  induction k with
  | zero => intro x hx; cases hx
  | succ k ih =>
    intro x hx
    rw [fixL] at hx
    split at hx
    · rename_i hall
      rcases List.mem_append.1 hx with h1 | h1
      · exact ih (by omega) x h1
      · simp only [List.mem_cons, List.not_mem_nil, or_false] at h1
        subst h1
        unfold zeroRun
        rw [run_at hs inp (by omega), run_at hs ⟨#[]⟩ (by omega)]
        exact nodeVal_congr (image_okOp hs (by omega)) fun y hy => ih (by omega) y (hall y hy)
    · exact ih (by omega) x hx
theorem const_back {v : Int} (h : IsVal v) : wordVal ((((unword v / 256).toNat : Nat) : Int) * 256 + (((unword v % 256).toNat : Nat) : Int)) = v := by
  have hb := unword_bd h
  rw [show ((((unword v / 256).toNat : Nat) : Int) * 256 + (((unword v % 256).toNat : Nat) : Int)) = unword v from by omega]
  exact wordVal_unword h
theorem step_val {s : ByteArray} (hs : isImage s = true) (inp : ByteArray) {k : Nat} (hk : k < bz s 2) (hn : bz s 1 + k ∈ needA s) (f : Nat → Int)
    (hf : ∀ v, v < bz s 1 + k → (v < bz s 1 ∨ v ∈ needA s) → f (cellOf s v) = (runTo s inp (bz s 2)).getD v 0) :
    nodeDo (inOp s k) (f (inA s k)) (f (inB s k)) (inA s k) (inB s k) = (runTo s inp (bz s 2)).getD (bz s 1 + k) 0 := by
  by_cases hx : bz s 1 + k ∈ fixA s
  · have e1 : inOp s k = 0 := if_pos hx
    have e2 : inA s k = (unword ((zeroRun s).getD (bz s 1 + k) 0) / 256).toNat := if_pos hx
    have e3 : inB s k = (unword ((zeroRun s).getD (bz s 1 + k) 0) % 256).toNat := if_pos hx
    rw [e1, fix_same hs inp (bz s 2) (Nat.le_refl _) _ hx]
    show wordVal ((inA s k : Int) * 256 + inB s k) = _
    rw [e2, e3]
    exact const_back (zeroRun_val s _)
  · have e1 : inOp s k = bz s (4 + 3 * k) := if_neg hx
    have e2 : inA s k = mvA s k := if_neg hx
    have e3 : inB s k = mvB s k := if_neg hx
    have hok := image_okOp hs hk
    have h0 := fix_const hs hk hx
    have h7 := okOp_seven hok
    have hnd := need_ops hs hk hn hx
    have hlt := opsAt_lt hs hk
    rw [e1, e2, e3, run_at hs inp hk]
    by_cases h5 : bz s (4 + 3 * k) ≤ 5
    · have eo := opsAt_of5 h0 h5
      rw [eo] at hnd hlt
      have ea := hf _ (hlt (bz s (5 + 3 * k)) (by simp)) (.inr (hnd _ (by simp)))
      have eb := hf _ (hlt (bz s (6 + 3 * k)) (by simp)) (.inr (hnd _ (by simp)))
      have ma : mvA s k = cellOf s (bz s (5 + 3 * k)) := by unfold mvA; rw [eo]; rfl
      have mb : mvB s k = cellOf s (bz s (6 + 3 * k)) := by unfold mvB; rw [eo]; rfl
      rw [ma, mb, ea, eb]
      unfold nodeVal nodeDo
      rw [if_neg h0, if_neg h0]
      have h6 : ¬ bz s (4 + 3 * k) = 6 := by omega
      repeat' split
      all_goals first | rfl | (exfalso; omega)
    · have eo := opsAt_of7 h5 h7
      rw [eo] at hnd hlt
      have ea := hf _ (hlt (bz s (5 + 3 * k)) (by simp)) (.inr (hnd _ (by simp)))
      have ma : mvA s k = cellOf s (bz s (5 + 3 * k)) := by unfold mvA; rw [eo]; rfl
      have mb : mvB s k = bz s (6 + 3 * k) := by unfold mvB; rw [eo]; rfl
      rw [ma, mb, ea]
      unfold nodeVal nodeDo
      simp only [if_neg h0, if_neg (show ¬ bz s (4 + 3 * k) = 1 by omega), if_neg (show ¬ bz s (4 + 3 * k) = 2 by omega), if_neg (show ¬ bz s (4 + 3 * k) = 3 by omega), if_neg (show ¬ bz s (4 + 3 * k) = 4 by omega), if_neg (show ¬ bz s (4 + 3 * k) = 5 by omega)]
theorem exec_inv {s : ByteArray} (hs : isImage s = true) (inp : ByteArray) (k : Nat) (hk : k ≤ bz s 2) : ∀ v, v < bz s 1 + k → (v < bz s 1 ∨ v ∈ needA s) → cellsAt (codeT s) inp (cnt s k) (cellOf s v) = (runTo s inp (bz s 2)).getD v 0 := by
  induction k with
  | zero =>
    intro v hv _
    have hv' : v < bz s 1 := by omega
    rw [runTo_input hv']
    show cellsAt (codeT s) inp 0 (cellOf s v) = _
    unfold cellOf
    rw [if_pos hv']
    unfold cellsAt
    rw [(code_head hs).2.1, if_pos hv']
  | succ k ih =>
    have ih' := ih (by omega)
    intro v hv hn
    by_cases hnk : bz s 1 + k ∈ needA s
    · have e0 := code_step hs (k := k) (by omega) hnk (c := 0) (by omega)
      have e1 := code_step hs (k := k) (by omega) hnk (c := 1) (by omega)
      have e2 := code_step hs (k := k) (by omega) hnk (c := 2) (by omega)
      have e3 := code_step hs (k := k) (by omega) hnk (c := 3) (by omega)
      rw [Nat.add_zero] at e0
      have ec : cnt s (k + 1) = cnt s k + 1 := by rw [cnt, if_pos hnk]
      rw [ec]
      unfold cellsAt
      rw [e0, e1, e2, e3]
      show (if cellOf s v = bz s 1 + cnt s k then nodeDo (inOp s k) (cellsAt (codeT s) inp (cnt s k) (inA s k)) (cellsAt (codeT s) inp (cnt s k) (inB s k)) (inA s k) (inB s k) else cellsAt (codeT s) inp (cnt s k) (cellOf s v)) = _
      by_cases hvk : v = bz s 1 + k
      · subst hvk
        rw [if_pos (cellOf_node s k)]
        exact step_val hs inp (by omega) hnk _ ih'
      · have hlt := cellOf_lt (k := k) hn (by omega)
        rw [if_neg (by omega)]
        exact ih' v (by omega) hn
    · have ec : cnt s (k + 1) = cnt s k := by rw [cnt, if_neg hnk]
      rw [ec]
      refine ih' v ?_ hn
      by_cases hvk : v = bz s 1 + k
      · subst hvk
        rcases hn with hn | hn
        · omega
        · exact absurd hn hnk
      · omega
theorem code_does {s : ByteArray} (hs : isImage s = true) (inp : ByteArray) : execOut (codeT s) inp = evalOut s inp := by
  unfold execOut evalOut
  rw [(code_head hs).2.2.2.1, (code_head hs).2.2.2.2]
  have h : ∀ j, j ≤ bz s 3 → outOf (cellsAt (codeT s) inp (cnt s (bz s 2))) (codeT s) j = outTo (runTo s inp (bz s 2)) s (4 + 3 * bz s 2) j := by
    intro j
    induction j with
    | zero => intro _; rfl
    | succ j ih =>
      intro hj
      rw [outOf, outTo, ih (by omega), code_out hs (by omega), exec_inv hs inp (bz s 2) (Nat.le_refl _) _ (image_outOk hs (by omega)) (.inr (need_out (by omega)))]
  exact h _ (Nat.le_refl _)
end Go.Proofs.Ytjfmiomopfjecaa.M

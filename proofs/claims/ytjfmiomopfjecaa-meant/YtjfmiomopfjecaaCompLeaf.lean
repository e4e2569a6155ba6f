/- The small functions of compile: lists of numbers, operands, moved nodes, constants. -/
import Derived.Test.YtjfmiomopfjecaaNetSound
import Derived.Test.YtjfmiomopfjecaaCompMath
namespace Go.Proofs.Ytjfmiomopfjecaa
open Go.RowKit

def nz (l : List Nat) : List Int := l.map fun x : Nat => (x : Int)
theorem nz_length (l : List Nat) : (nz l).length = l.length := by simp [nz]
theorem nz_append (l r : List Nat) : nz (l ++ r) = nz l ++ nz r := by simp [nz]
theorem nz_getD (l : List Nat) (i : Nat) : (nz l).getD i 0 = ((l.getD i 0 : Nat) : Int) := by
  unfold nz
  rw [List.getD_eq_getElem?_getD, List.getD_eq_getElem?_getD, List.getElem?_map]
  cases l[i]? <;> rfl
theorem nzCell {l : List Nat} {i : Nat} (h : i < l.length) : (intCells (nz l))[i]? = some (.int .i64 ((l.getD i 0 : Nat) : Int)) := by
  rw [intCells_at (by rw [nz_length]; exact h), nz_getD]
theorem getD_mem {l : List Nat} {i : Nat} (h : i < l.length) : l.getD i 0 ∈ l := by
  rw [List.getD_eq_getElem?_getD, List.getElem?_eq_getElem h]
  exact List.getElem_mem h
theorem mem_getD {l : List Nat} {x : Nat} (h : x ∈ l) : ∃ i, i < l.length ∧ l.getD i 0 = x := by
  obtain ⟨i, hi, rfl⟩ := List.getElem_of_mem h
  exact ⟨i, hi, by rw [List.getD_eq_getElem?_getD, List.getElem?_eq_getElem hi]; rfl⟩

theorem has_any (v : Value) (l : List Nat) (x : Nat) (w : World) (h : HoldsRow w v l.length (intCells (nz l))) :
    Calls Try.prog 84 #[v, .int .i64 x] w fun e w' => e = .returned (.bool (decide (x ∈ l))) ∧ w = w' := by
  have hlen := h.len
  unfold maxLen at hlen
  rcases h with ⟨rfl, hn⟩ | ⟨g, cap, rfl, hg, h1, h2, h3⟩
  · have : l = [] := List.eq_nil_of_length_eq_zero hn
    subst this
    go_enter Try.func84, Try.ntmps84
    go_wp2_with fail
    refine wp_loop_rounds 1 ?_
    rw [rounds_succ]
    go_wp2
    go_ret
    exact ⟨ret_bool (by simp), rfl⟩
  · have HC := hide h3
    clear h3
    have HM := hide (fun (hm : x ∈ l) => mem_getD hm)
    have HI := hide (fun i (hi : i < l.length) => getD_mem (l := l) hi)
    unfold maxLen at h2
    go_enter Try.func84, Try.ntmps84
    go_wp2_with fail
    go_loop [5] (fun i => ∃ k : Nat, k ≤ l.length ∧ i = .int .i64 k ∧ Hid (∀ j, j < k → ¬ l.getD j 0 = x)) (fun i => l.length - (intOf i).toNat)
    case atStart => exact ⟨0, by omega, rfl, by intro j hj; omega⟩
    case round =>
      obtain ⟨k, hk, rfl, hno⟩ := hrel
      by_cases hlt : k < l.length
      · have hc := unhide HC k _ (nzCell hlt)
        by_cases he : l.getD k 0 = x
        · have HD : Hid (decide (x ∈ l) = true) := by rw [← he]; exact decide_eq_true (HI.out k hlt)
          rw [he] at hc
          clear he
          go_wp2
          go_ret
          exact ⟨ret_bool HD.out.symm, rfl⟩
        · have HN : Hid (∀ j, j < k + 1 → ¬ l.getD j 0 = x) := by
            intro j hj
            by_cases e : j = k
            · subst e; exact he
            · exact hno.out j (by omega)
          have e3 : ((((l.getD k 0 : Nat) : Int)) == (x : Int)) = false := by rw [beq_eq_false_iff_ne]; omega
          generalize l.getD k 0 = y at *
          clear he
          go_wp2
          go_round
          case rel => exact ⟨k + 1, by omega, by go_num, HN⟩
          case measure => simp [intOf]; omega
      · have HD : Hid (decide (x ∈ l) = false) := by
          refine decide_eq_false fun hm => ?_
          obtain ⟨i, hi, e⟩ := HM.out hm
          exact hno.out i (by omega) e
        go_wp2
        go_ret
        exact ⟨ret_bool HD.out.symm, rfl⟩
theorem hasAll_any (v u : Value) (l r : List Nat) (w : World) (h : HoldsRow w v l.length (intCells (nz l))) (hr : HoldsRow w u r.length (intCells (nz r))) :
    Calls Try.prog 107 #[v, u] w fun e w' => e = .returned (.bool (decide (∀ x ∈ r, x ∈ l))) ∧ w = w' := by
  have hlen := hr.len
  unfold maxLen at hlen
  have HL := hide h
  clear h
  rcases hr with ⟨rfl, hn⟩ | ⟨g, cap, rfl, hg, h1, h2, h3⟩
  · have : r = [] := List.eq_nil_of_length_eq_zero hn
    subst this
    go_enter Try.func107, Try.ntmps107
    go_wp2_with fail
    refine wp_loop_rounds 1 ?_
    rw [rounds_succ]
    go_wp2
    go_ret
    exact ⟨ret_bool (by simp), rfl⟩
  · have HC := hide h3
    clear h3
    have HM := hide (fun y (hm : y ∈ r) => mem_getD hm)
    have HI := hide (fun i (hi : i < r.length) => getD_mem (l := r) hi)
    unfold maxLen at h2
    go_enter Try.func107, Try.ntmps107
    go_wp2_with fail
    go_loop [5] (fun i => ∃ k : Nat, k ≤ r.length ∧ i = .int .i64 k ∧ Hid (∀ j, j < k → r.getD j 0 ∈ l)) (fun i => r.length - (intOf i).toNat)
    case atStart => exact ⟨0, by omega, rfl, by intro j hj; omega⟩
    case round =>
      obtain ⟨k, hk, rfl, hno⟩ := hrel
      by_cases hlt : k < r.length
      · have hc := unhide HC k _ (nzCell hlt)
        have HY := hide (HI.out k hlt)
        have HK := hide (fun (he : r.getD k 0 ∈ l) j (hj : j < k + 1) => (show r.getD j 0 ∈ l from by
            by_cases e : j = k
            · subst e; exact he
            · exact hno.out j (by omega)))
        generalize r.getD k 0 = y at *
        go_wp2_with fail
        refine (has_any v l y _ (unhide HL)).mono ?_
        rintro e w' ⟨rfl, rfl⟩
        by_cases he : y ∈ l
        · rw [decide_eq_true he]
          have HN := hide (HK.out he)
          clear he HK
          go_wp2
          go_round
          case rel => exact ⟨k + 1, by omega, by go_num, HN⟩
          case measure => simp [intOf]; omega
        · rw [decide_eq_false he]
          have HD : Hid (decide (∀ x ∈ r, x ∈ l) = false) := decide_eq_false fun hm => he (hm _ HY.out)
          clear he HK
          go_wp2
          go_ret
          exact ⟨ret_bool HD.out.symm, rfl⟩
      · have HD : Hid (decide (∀ x ∈ r, x ∈ l) = true) := by
          refine decide_eq_true fun x hx => ?_
          obtain ⟨i, hi, e⟩ := HM.out x hx
          rw [← e]
          exact hno.out i (by omega)
        go_wp2
        go_ret
        exact ⟨ret_bool HD.out.symm, rfl⟩

theorem new_row {w : World} {b : Obj} (ns : List Nat) (k : Nat) (hk : ns.length = k) (hk2 : k ≤ 1000) :
    HoldsRow ((w.alloc b).alloc (.cells (intCells (nz ns)).toArray 3)) (.slice (some ⟨w.heap.size + 1, 0, none⟩) k k) ns.length (intCells (nz ns)) := by
  subst hk
  refine .inr ⟨w.heap.size + 1, ns.length, rfl, by simp, Nat.le_refl _, by unfold maxLen; omega, ?_⟩
  intro j u hj
  rw [World.cell?_alloc_at _ _ _ _ (by simp)]
  simpa using hj
theorem operands_any (op a b : Nat) (w : World) (h7 : op ≤ 7) :
    Calls Try.prog 106 #[.agg #[.int .i64 op, .int .i64 a, .int .i64 b]] w fun e w' => ∃ v, e = .returned v ∧
      HoldsRow w' v (M.opsL op a b).length (intCells (nz (M.opsL op a b))) ∧ Below w.heap.size w w' := by
  have hops : op = 0 ∨ op = 1 ∨ op = 2 ∨ op = 3 ∨ op = 4 ∨ op = 5 ∨ op = 6 ∨ op = 7 := by omega
  rcases hops with rfl | rfl | rfl | rfl | rfl | rfl | rfl | rfl
  · go_enter Try.func106, Try.ntmps106
    go_wp2
    go_ret
    exact ⟨_, rfl, .inl ⟨rfl, rfl⟩, (Below.refl _ _).alloc (Nat.le_refl _) _⟩
  · go_enter Try.func106, Try.ntmps106
    go_wp2
    go_ret
    exact ⟨_, rfl, new_row [a, b] 2 rfl (by omega), ((Below.refl _ _).alloc (Nat.le_refl _) _).alloc (by simp) _⟩
  · go_enter Try.func106, Try.ntmps106
    go_wp2
    go_ret
    exact ⟨_, rfl, new_row [a, b] 2 rfl (by omega), ((Below.refl _ _).alloc (Nat.le_refl _) _).alloc (by simp) _⟩
  · go_enter Try.func106, Try.ntmps106
    go_wp2
    go_ret
    exact ⟨_, rfl, new_row [a, b] 2 rfl (by omega), ((Below.refl _ _).alloc (Nat.le_refl _) _).alloc (by simp) _⟩
  · go_enter Try.func106, Try.ntmps106
    go_wp2
    go_ret
    exact ⟨_, rfl, new_row [a, b] 2 rfl (by omega), ((Below.refl _ _).alloc (Nat.le_refl _) _).alloc (by simp) _⟩
  · go_enter Try.func106, Try.ntmps106
    go_wp2
    go_ret
    exact ⟨_, rfl, new_row [a, b] 2 rfl (by omega), ((Below.refl _ _).alloc (Nat.le_refl _) _).alloc (by simp) _⟩
  · go_enter Try.func106, Try.ntmps106
    go_wp2
    go_ret
    exact ⟨_, rfl, new_row [a] 1 rfl (by omega), ((Below.refl _ _).alloc (Nat.le_refl _) _).alloc (by simp) _⟩
  · go_enter Try.func106, Try.ntmps106
    go_wp2
    go_ret
    exact ⟨_, rfl, new_row [a] 1 rfl (by omega), ((Below.refl _ _).alloc (Nat.le_refl _) _).alloc (by simp) _⟩

theorem constant_any (v : Int) (w : World) (h : M.IsVal v) :
    Calls Try.prog 87 #[.int .i64 v] w fun e w' => e = .returned (.agg #[.int .i64 0, .int .i64 ((M.unword v / 256).toNat : Nat), .int .i64 ((M.unword v % 256).toNat : Nat)]) ∧ Below w.heap.size w w' := by
  have hb := M.unword_bd h
  have e1 : (((M.unword v / 256).toNat : Nat) : Int) = M.unword v / 256 := by omega
  have e2 : (((M.unword v % 256).toNat : Nat) : Int) = M.unword v % 256 := by omega
  rw [e1, e2]
  clear e1 e2 hb
  go_enter Try.func87, Try.ntmps87
  go_wp2_with fail
  refine (wordSplit_any v _ h).mono ?_
  rintro e w' ⟨rfl, rfl⟩
  go_wp2
  exact bodyPost_ret (v := .agg #[.int .i64 0, .int .i64 (M.unword v / 256), .int .i64 (M.unword v % 256)]) (by simp [results, Try.results87, go_sem]) rfl ⟨rfl, (Below.refl _ _).alloc (Nat.le_refl _) _⟩
end Go.Proofs.Ytjfmiomopfjecaa

/- The document's bounds: operand, output, fixed. -/
import Derived.Test.YtjfmiomopfjecaaBoundMath
import Derived.Test.YtjfmiomopfjecaaCompLeaf
import Derived.Test.YtjfmiomopfjecaaNetRef
namespace Go.Proofs.Ytjfmiomopfjecaa
open Go.RowKit

theorem refNum_at (s : ByteArray) (k : Int) (i : Nat) (w : World) (hs : s.size ≤ maxLen) (hk : k = i) (h1 : i < s.size) :
    Calls Try.prog 42 #[.string s, .int .i64 k] w fun e w' => e = .returned (.int .i64 (M.bz s i)) ∧ w = w' := by
  subst hk
  have h := refNumber_in s (i : Int) w hs (by omega) (by omega)
  rw [Int.toNat_natCast] at h
  exact h
theorem opsAt_zero {s : ByteArray} {i : Nat} (h : M.bz s (4 + 3 * i) = 0) (v : Nat) : decide (v ∈ M.opsAt s i) = false := by
  unfold M.opsAt M.opsL
  rw [if_pos h]
  rfl
theorem opsAt_five {s : ByteArray} {i : Nat} (h0 : M.bz s (4 + 3 * i) ≠ 0) (h : M.bz s (4 + 3 * i) ≤ 5) (v : Nat) : decide (v ∈ M.opsAt s i) = (((M.bz s (5 + 3 * i) : Int) == (v : Int)) || ((M.bz s (6 + 3 * i) : Int) == (v : Int))) := by
  rw [M.opsAt_of5 h0 h, Bool.eq_iff_iff]
  simp only [List.mem_cons, List.not_mem_nil, or_false, decide_eq_true_eq, Bool.or_eq_true, beq_iff_eq]
  omega
theorem opsAt_seven {s : ByteArray} {i : Nat} (h5 : ¬ M.bz s (4 + 3 * i) ≤ 5) (h : M.bz s (4 + 3 * i) ≤ 7) (v : Nat) : decide (v ∈ M.opsAt s i) = ((M.bz s (5 + 3 * i) : Int) == (v : Int)) := by
  rw [M.opsAt_of7 h5 h, Bool.eq_iff_iff]
  simp only [List.mem_cons, List.not_mem_nil, or_false, decide_eq_true_eq, beq_iff_eq]
  omega
theorem refOperand_any (s : ByteArray) (i v : Nat) (k u : Int) (w : World) (h : M.isImage s = true) (hi : i < M.bz s 2) (hk : k = i) (hu : u = v) (_hv : v ≤ 1000) :
    Calls Try.prog 91 #[.string s, .int .i64 k, .int .i64 u] w fun e w' => e = .returned (.bool (decide (v ∈ M.opsAt s i))) ∧ w = w' := by
  subst hk hu
  obtain ⟨h0, h1, h2, h3, h4, h5, h6⟩ := M.headOk_eq (M.image_headOk h)
  have hs : s.size ≤ maxLen := by unfold maxLen; omega
  have h7 := M.okOp_seven' (M.image_okOp h hi)
  have z0 := hide (fun hh => opsAt_zero (s := s) (i := i) hh v)
  have z5 := hide (fun h0 hh => opsAt_five (s := s) (i := i) h0 hh v)
  have z7 := hide (fun h5 hh => opsAt_seven (s := s) (i := i) h5 hh v)
  have l0 : 4 + 3 * i < s.size := by omega
  have l1 : 5 + 3 * i < s.size := by omega
  have l2 : 6 + 3 * i < s.size := by omega
  have hi24 : i ≤ 24 := by omega
  clear h h0 h1 h2 h3 h4 h5 h6 hi
  go_enter Try.func91, Try.ntmps91
  go_wp2_with fail
  refine (refNum_at s _ (4 + 3 * i) _ hs (by omega) l0).mono ?_
  rintro e w' ⟨rfl, rfl⟩
  go_wp2_with fail
  refine (refNum_at s _ (5 + 3 * i) _ hs (by omega) l1).mono ?_
  rintro e w' ⟨rfl, rfl⟩
  go_wp2_with fail
  refine (refNum_at s _ (6 + 3 * i) _ hs (by omega) l2).mono ?_
  rintro e w' ⟨rfl, rfl⟩
  generalize M.bz s (4 + 3 * i) = x at *
  generalize M.bz s (5 + 3 * i) = y at *
  generalize M.bz s (6 + 3 * i) = z at *
  by_cases e0 : x = 0
  · have HE := hide (z0.out e0)
    subst e0
    go_wp2
    go_ret
    exact ⟨ret_bool HE.out.symm, rfl⟩
  · have b0 : ((x : Int) == 0) = false := by rw [beq_eq_false_iff_ne]; omega
    by_cases e5 : x ≤ 5
    · have HE := hide (z5.out e0 e5)
      clear e0
      cases hB : ((y : Int) == (v : Int))
      · go_wp2
        go_ret
        exact ⟨ret_bool (by rw [HE.out, hB]; rfl), rfl⟩
      · go_wp2
        go_ret
        exact ⟨ret_bool (by rw [HE.out, hB]; rfl), rfl⟩
    · have HE := hide (z7.out e5 h7)
      clear e0
      go_wp2
      go_ret
      exact ⟨ret_bool HE.out.symm, rfl⟩
theorem refOutput_any (s : ByteArray) (v : Nat) (u : Int) (w : World) (h : M.isImage s = true) (hu : u = v) :
    Calls Try.prog 90 #[.string s, .int .i64 u] w fun e w' => e = .returned (.bool (decide (v ∈ M.outL s))) ∧ w = w' := by
  subst hu
  obtain ⟨h0, h1, h2, h3, h4, h5, h6⟩ := M.headOk_eq (M.image_headOk h)
  have hs : s.size ≤ maxLen := by unfold maxLen; omega
  have HOL : Hid (M.outL s = (List.range (M.bz s 3)).map fun j => M.bz s (4 + 3 * M.bz s 2 + j)) := rfl
  clear h h0 h1 h2
  go_enter Try.func90, Try.ntmps90
  go_wp2_with fail
  refine (refNum_at s _ 2 _ hs rfl (by omega)).mono ?_
  rintro e w' ⟨rfl, rfl⟩
  generalize M.bz s 2 = m at *
  generalize M.bz s 3 = c at *
  have hz1 : s.size ≤ 4 + 3 * m + c := by omega
  have hz2 : 4 + 3 * m + c ≤ s.size := by omega
  clear h6
  go_wp2_with fail
  go_loop [5] (fun i => ∃ k q : Nat, k ≤ c ∧ q = 4 + 3 * m + k ∧ i = .int .i64 q ∧ Hid (∀ j, j < k → ¬ M.bz s (4 + 3 * m + j) = v)) (fun i => s.size - (intOf i).toNat)
  case atStart => exact ⟨0, 4 + 3 * m, by omega, by omega, by go_num, by intro j hj; omega⟩
  case round =>
    obtain ⟨k, q, hk, hq, rfl, hno⟩ := hrel
    have hq1 : q ≤ 4 + 3 * m + k := by omega
    have hq2 : 4 + 3 * m + k ≤ q := by omega
    by_cases hlt : k < c
    · have HKN := hide (fun (hne : ¬ M.bz s q = v) j (hj : j < k + 1) => (show ¬ M.bz s (4 + 3 * m + j) = v from by
        by_cases e : j = k
        · subst e; rw [← hq]; exact hne
        · exact hno.out j (by omega)))
      have HIN := hide (fun (he : M.bz s q = v) => (show decide (v ∈ M.outL s) = true from by
        rw [HOL.out]
        exact decide_eq_true (List.mem_map.2 ⟨k, by simpa using hlt, by rw [← hq]; exact he⟩)))
      clear hq
      go_wp2_with fail
      refine (refNum_at s _ q _ hs rfl (by omega)).mono ?_
      rintro e w' ⟨rfl, rfl⟩
      generalize M.bz s q = x at *
      by_cases he : x = v
      · have HD := hide (HIN.out he)
        subst he
        clear HKN HIN
        go_wp2
        go_ret
        exact ⟨ret_bool HD.out.symm, rfl⟩
      · have HN := hide (HKN.out he)
        have b0 : ((x : Int) == (v : Int)) = false := by rw [beq_eq_false_iff_ne]; omega
        clear he HKN HIN
        go_wp2
        go_round
        case rel => exact ⟨k + 1, q + 1, by omega, by omega, by go_num, HN⟩
        case measure => simp [intOf]; omega
    · have HD : Hid (decide (v ∈ M.outL s) = false) := by
        refine decide_eq_false fun hm => ?_
        rw [HOL.out] at hm
        obtain ⟨j, hj, e⟩ := List.mem_map.1 hm
        rw [List.mem_range] at hj
        exact hno.out j (by omega) e
      clear hq
      go_wp2
      go_ret
      exact ⟨ret_bool HD.out.symm, rfl⟩

/- lists of yes and no -/
def boolCells (l : List Bool) : List Value := l.map Value.bool
def bl (p : Nat → Bool) (k : Nat) : List Bool := (List.range k).map p
theorem bl_succ (p : Nat → Bool) (k : Nat) : boolCells (bl p (k + 1)) = boolCells (bl p k) ++ [.bool (p k)] := by
  unfold bl boolCells; rw [List.range_succ, List.map_append, List.map_append]; rfl
theorem bl_at {p : Nat → Bool} {k j : Nat} (h : j < k) : (boolCells (bl p k))[j]? = some (.bool (p j)) := by simp [boolCells, bl, h]
theorem bl_length (p : Nat → Bool) (k : Nat) : (boolCells (bl p k)).length = k := by simp [boolCells, bl]
theorem infoBl : (Try.prog.info? 4).map (fun i => (i.zero, i.size, i.bytes)) = some (some (.bool false), 1, 1) := by kernel_rfl
theorem append_bool {ops : Array Oper} {rest : List Oper} {o : Oper} {a : Act} {Q : Exit → Act → World → Prop} (w : World) (hgd : o.guard = none) (s x : Operand)
    (ho : o.op = .call { callee := .builtin .append, args := #[s, x], argTypes := #[92, 92] })
    (base : Nat) (v : Value) (p : Nat → Bool) (k : Nat) (y : Bool) (hy : y = p k) (hs : a.eval s = v) (hx : a.eval x = .slice (some ⟨w.heap.size, 0, none⟩) 1 1)
    (hown : w.ownsRow base 4 1 v k (boolCells (bl p k))) (hn : k + 1 ≤ 1000000) (hbase : base ≤ w.heap.size)
    (h : ∀ v' w', w'.ownsRow base 4 1 v' (k + 1) (boolCells (bl p (k + 1))) → (∀ w0, Below base w0 w → Below base w0 w') → w.heap.size ≤ w'.heap.size → wpList Try.prog ops Q rest (a.put o.dst v') w') :
    wpList Try.prog ops Q (o :: rest) a (w.alloc (.cells #[.bool y] 4)) := by
  subst hy
  obtain ⟨i0, hi, hz0, hz1, hz2⟩ := info_parts infoBl
  refine append_one w hgd s x 92 ho base 4 i0 (.bool false) 1 1 Try.underlying92 hi hz0 hz1 hz2 rfl (by decide) v k (boolCells (bl p k)) hs hown [.bool (p k)] rfl hx ?_ hn (by omega) hbase ?_
  · intro u hu; simp at hu; subst hu; rfl
  · intro v' w' a b c
    refine h v' w' ?_ b c
    rw [bl_succ]
    exact a
theorem fixB_in {s : ByteArray} {v : Nat} (h : M.bz s 1 ≤ v) : M.fixB s (v - M.bz s 1) = decide (v ∈ M.fixA s) := by
  unfold M.fixB
  rw [show M.bz s 1 + (v - M.bz s 1) = v from by omega]
theorem fixA_low {s : ByteArray} {v : Nat} (h : v < M.bz s 1) : decide (v ∈ M.fixA s) = false := by
  refine decide_eq_false fun hm => ?_
  have := M.fixL_bd hm
  omega
/-- are all operands of node i below v fixed? -/
def fixTo (s : ByteArray) (i v : Nat) : Bool := decide (∀ x ∈ M.opsAt s i, x < v → x ∈ M.fixA s)
theorem fixTo_zero (s : ByteArray) (i : Nat) : fixTo s i 0 = true := decide_eq_true (fun x _ h => by omega)
theorem fixTo_succ (s : ByteArray) (i v : Nat) : fixTo s i (v + 1) = if (decide (v ∈ M.opsAt s i) && !decide (v ∈ M.fixA s)) = true then false else fixTo s i v := by
  by_cases ho : v ∈ M.opsAt s i
  · by_cases hf : v ∈ M.fixA s
    · rw [decide_eq_true ho, decide_eq_true hf]
      show fixTo s i (v + 1) = fixTo s i v
      unfold fixTo
      rw [decide_eq_decide]
      constructor
      · intro h x hx hlt; exact h x hx (by omega)
      · intro h x hx hlt
        by_cases e : x = v
        · subst e; exact hf
        · exact h x hx (by omega)
    · rw [decide_eq_true ho, decide_eq_false hf]
      show fixTo s i (v + 1) = false
      exact decide_eq_false fun h => hf (h v ho (by omega))
  · rw [decide_eq_false ho]
    show fixTo s i (v + 1) = fixTo s i v
    unfold fixTo
    rw [decide_eq_decide]
    constructor
    · intro h x hx hlt; exact h x hx (by omega)
    · intro h x hx hlt
      by_cases e : x = v
      · subst e; exact absurd hx ho
      · exact h x hx (by omega)
theorem fixTo_all {s : ByteArray} (h : M.isImage s = true) {i : Nat} (hi : i < M.bz s 2) : fixTo s i (M.bz s 1 + i) = M.fixB s i := by
  unfold fixTo M.fixB
  rw [decide_eq_decide, M.fix_iff h hi]
  constructor
  · intro hh x hx; exact hh x hx (M.opsAt_lt h hi x hx)
  · intro hh x hx _; exact hh x hx

set_option maxHeartbeats 800000 in
theorem refFixed_any (s : ByteArray) (n m : Nat) (w : World) (h : M.isImage s = true) (hn : M.bz s 1 = n) (hm : M.bz s 2 = m) :
    Calls Try.prog 88 #[.string s] w fun e w' => ∃ v, e = .returned v ∧ HoldsRow w' v m (boolCells (bl (M.fixB s) m)) ∧ Below w.heap.size w w' := by
  obtain ⟨h0, h1, h2, h3, h4, h5, h6⟩ := M.headOk_eq (M.image_headOk h)
  have hs : s.size ≤ maxLen := by unfold maxLen; omega
  have hz : 4 ≤ s.size := by omega
  rw [hn] at h1 h2
  rw [hm] at h3
  have HI := hide h
  have HN := hide hn
  have HM := hide hm
  have HOPR := hide (fun (i v : Nat) (k u : Int) w (hi : i < m) (hk : k = i) (hu : u = v) (hv : v ≤ 1000) => refOperand_any s i v k u w h (by rw [hm]; exact hi) hk hu hv)
  have HN1 : Hid (∀ w, Calls Try.prog 42 #[.string s, .int .i64 1] w fun e w' => e = .returned (.int .i64 n) ∧ w = w') := by
    intro w; have := refNum_at s 1 1 w hs rfl (by omega); rw [hn] at this; exact this
  have HN2 : Hid (∀ w, Calls Try.prog 42 #[.string s, .int .i64 2] w fun e w' => e = .returned (.int .i64 m) ∧ w = w') := by
    intro w; have := refNum_at s 2 2 w hs rfl (by omega); rw [hm] at this; exact this
  have HALL : Hid (∀ i, i < m → fixTo s i (n + i) = M.fixB s i) := by rw [← hn, ← hm]; exact fun i hi => fixTo_all h hi
  have HIN : Hid (∀ v, n ≤ v → M.fixB s (v - n) = decide (v ∈ M.fixA s)) := by rw [← hn]; exact fun v hv => fixB_in hv
  have HLOW : Hid (∀ v, v < n → decide (v ∈ M.fixA s) = false) := by rw [← hn]; exact fun v hv => fixA_low hv
  clear h h0 h4 h5 h6 hn hm
  go_enter Try.func88, Try.ntmps88
  go_wp2_with fail
  refine (unhide HN1 _).mono ?_
  rintro e w' ⟨rfl, rfl⟩
  go_wp2_with fail
  go_loopw [4, 5] (fun v i wr => ∃ k : Nat, k ≤ m ∧ i = .int .i64 k ∧ wr.ownsRow w.heap.size 4 1 v k (boolCells (bl (M.fixB s) k)) ∧ Below w.heap.size w wr) (fun _ i _ => m - (intOf i).toNat)
  case atStart => exact ⟨0, by omega, rfl, World.ownsRow_nil _ _ _ _, Below.refl _ _⟩
  case round =>
    obtain ⟨k, hk, rfl, hown, hbel⟩ := hrel
    have hsz := hbel.size
    have HO := hide hown
    have HB := hide hbel
    have HRW := hide (holdsRow_own hown)
    clear hown hbel
    go_wp2_with fail
    refine (unhide HN2 _).mono ?_
    rintro e w' ⟨rfl, rfl⟩
    by_cases hlt : k < m
    · have HEND := hide (HALL.out k hlt)
      have HSU := hide (fun v => fixTo_succ s k v)
      have HZ := hide (fixTo_zero s k)
      go_wp2_with fail
      obtain ⟨w5, hw5⟩ : ∃ w5, w5 = wr := ⟨wr, rfl⟩
      subst hw5
      go_loop [6, 7] (fun f i => ∃ v : Nat, v ≤ n + k ∧ i = .int .i64 v ∧ f = .bool (fixTo s k v)) (fun _ i => n + k - (intOf i).toNat)
      case atStart => exact ⟨0, by omega, rfl, by rw [HZ.out]⟩
      case round =>
        obtain ⟨v, hv, rfl, rfl⟩ := hrel
        by_cases hvl : v < n + k
        · go_wp2_with fail
          refine (unhide HOPR k v _ _ _ hlt rfl rfl (by omega)).mono ?_
          rintro e w' ⟨rfl, rfl⟩
          have HS1 := hide (HSU.out v)
          generalize fixTo s k v = f at *
          generalize decide (v ∈ M.opsAt s k) = o at *
          by_cases hvn : v < n
          · have hf := HLOW.out v hvn
            cases o
            · have HS2 : Hid (fixTo s k (v + 1) = f) := by rw [HS1.out]; rfl
              go_wp2
              go_round
              case rel => exact ⟨v + 1, by omega, by go_num, by rw [HS2.out]⟩
              case measure => simp [intOf]; omega
            · have HS2 : Hid (fixTo s k (v + 1) = false) := by rw [HS1.out, hf]; rfl
              go_wp2
              go_round
              case rel => exact ⟨v + 1, by omega, by go_num, by rw [HS2.out]⟩
              case measure => simp [intOf]; omega
          · have HF := hide (HIN.out v (by omega))
            obtain ⟨ao, cap, rfl, hc1, hc2, hxx⟩ := (unhide HRW).shape
            obtain ⟨g, rfl, hg, hcell⟩ := hxx (by omega)
            have hcl := hcell (v - n) _ (bl_at (by omega))
            rw [HF.out] at hcl
            have htn : ((v : Int) - (n : Int)).toNat = v - n := by omega
            have hi0 : (0 : Int) ≤ (v : Int) - (n : Int) := by omega
            have hi1 : (v : Int) - (n : Int) < (k : Int) := by omega
            unfold maxLen at hc2
            clear hxx hcell
            cases o
            · have HS2 : Hid (fixTo s k (v + 1) = f) := by rw [HS1.out]; rfl
              go_wp2
              go_round
              case rel => exact ⟨v + 1, by omega, by go_num, by rw [HS2.out]⟩
              case measure => simp [intOf]; omega
            · cases hff : decide (v ∈ M.fixA s)
              · have HS2 : Hid (fixTo s k (v + 1) = false) := by rw [HS1.out, hff]; rfl
                rw [hff] at hcl
                clear hff
                go_wp2
                go_round
                case rel => exact ⟨v + 1, by omega, by go_num, by rw [HS2.out]⟩
                case measure => simp [intOf]; omega
              · have HS2 : Hid (fixTo s k (v + 1) = f) := by rw [HS1.out, hff]; rfl
                rw [hff] at hcl
                clear hff
                go_wp2
                go_round
                case rel => exact ⟨v + 1, by omega, by go_num, by rw [HS2.out]⟩
                case measure => simp [intOf]; omega
        · have hve : v = n + k := by omega
          have HFE : Hid (fixTo s k v = M.fixB s k) := by rw [hve]; exact HEND.out
          clear hve
          generalize fixTo s k v = f at *
          go_wp2_with (at_builtin; (refine append_bool _ rfl (.tmp 43) (.tmp 45) rfl w.heap.size u4 (M.fixB s) k f HFE.out rfl rfl (unhide HO) (by omega) hsz ?_); intro v' w1 hown1 hbel1 hsz1)
          have HR := hide hown1
          have HB1 := hide (hbel1 _ (unhide HB))
          clear hown1 hbel1
          go_wp2
          go_roundw
          case rel => exact ⟨k + 1, by omega, by go_num, unhide HR, unhide HB1⟩
          case measure => simp [intOf]; omega
    · have hkm : m = k := by omega
      subst hkm
      go_wp2
      go_ret
      exact ⟨_, rfl, unhide HRW, unhide HB⟩
end Go.Proofs.Ytjfmiomopfjecaa

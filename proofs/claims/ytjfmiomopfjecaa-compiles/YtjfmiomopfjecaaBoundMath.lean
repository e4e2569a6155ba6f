/- The bounds of P6 in plain Lean: live nodes, wanted ones, and how many instructions of a kind there are. -/
import Derived.Test.YtjfmiomopfjecaaCompExec
namespace Go.Proofs.Ytjfmiomopfjecaa.M

/-- is node i live, d steps being looked at -/
def liveF (s : ByteArray) : Nat → Nat → Bool
  | 0, _ => false
  | d + 1, i => decide (bz s 1 + i ∈ outL s) || (List.range (bz s 2)).any fun k => decide (i < k) && (decide (bz s 1 + i ∈ opsAt s k) && liveF s d k)
def liveB (s : ByteArray) (i : Nat) : Bool := liveF s (bz s 2) i
theorem any_congr' {l : List Nat} {p r : Nat → Bool} (h : ∀ k ∈ l, p k = r k) : l.any p = l.any r := by
  induction l with
  | nil => rfl
  | cons x l ih => rw [List.any_cons, List.any_cons, h x (by simp), ih (fun k hk => h k (by simp [hk]))]
theorem liveF_same (s : ByteArray) (d : Nat) : ∀ d' i, i < bz s 2 → bz s 2 ≤ i + d → bz s 2 ≤ i + d' → liveF s d i = liveF s d' i := by
  induction d with
  | zero => intro d' i h1 h2; omega
  | succ d ih =>
    intro d' i h1 h2 h3
    cases d' with
    | zero => omega
    | succ d' =>
      rw [liveF, liveF]
      congr 1
      refine any_congr' fun k hk => ?_
      rw [List.mem_range] at hk
      by_cases hik : i < k
      · rw [ih d' k hk (by omega) (by omega)]
      · rw [decide_eq_false hik]; rfl
theorem live_eq (s : ByteArray) {i : Nat} (hi : i < bz s 2) : liveB s i = (decide (bz s 1 + i ∈ outL s) || (List.range (bz s 2)).any fun k => decide (i < k) && (decide (bz s 1 + i ∈ opsAt s k) && liveB s k)) := by
  have e : liveB s i = liveF s (bz s 2 - 1 + 1) i := by unfold liveB; congr 1; omega
  rw [e, liveF]
  congr 1
  refine any_congr' fun k hk => ?_
  rw [List.mem_range] at hk
  by_cases hik : i < k
  · rw [liveF_same s (bz s 2 - 1) (bz s 2) k hk (by omega) (by omega)]; rfl
  · rw [decide_eq_false hik]; rfl
def fixB (s : ByteArray) (i : Nat) : Bool := decide (bz s 1 + i ∈ fixA s)
def wantB (s : ByteArray) (i : Nat) : Bool := decide (bz s 1 + i ∈ outL s) || (List.range (bz s 2)).any fun k => decide (i < k) && (decide (bz s 1 + i ∈ opsAt s k) && (liveB s k && !fixB s k))
/-- is one of the first k so? -/
def anyTo (p : Nat → Bool) (k : Nat) : Bool := (List.range k).any p
theorem anyTo_succ (p : Nat → Bool) (k : Nat) : anyTo p (k + 1) = (anyTo p k || p k) := by
  unfold anyTo
  rw [List.range_succ, List.any_append]
  simp
theorem anyTo_low {p : Nat → Bool} {k : Nat} (h : ∀ j, j < k → p j = false) : anyTo p k = false := by
  unfold anyTo
  rw [List.any_eq_false]
  intro j hj
  rw [h j (List.mem_range.1 hj)]
  simp

/-- how many i below k -/
def cntP (p : Nat → Bool) : Nat → Nat
  | 0 => 0
  | k + 1 => if p k then cntP p k + 1 else cntP p k
theorem cntP_le (p : Nat → Bool) (k : Nat) : cntP p k ≤ k := by
  induction k with
  | zero => exact Nat.le_refl _
  | succ k ih => rw [cntP]; split <;> omega
theorem cntP_mono {p r : Nat → Bool} {m : Nat} (h : ∀ i, i < m → p i = true → r i = true) (k : Nat) (hk : k ≤ m) : cntP p k ≤ cntP r k := by
  induction k with
  | zero => exact Nat.le_refl _
  | succ k ih =>
    have := ih (by omega)
    rw [cntP, cntP]
    split
    · rename_i hp
      rw [if_pos (h k (by omega) hp)]
      omega
    · split <;> omega
def constsB (s : ByteArray) : Nat := cntP (fun i => liveB s i && (fixB s i && wantB s i)) (bz s 2)
def othersB (s : ByteArray) : Nat := cntP (fun i => liveB s i && !fixB s i) (bz s 2)

def ndB (s : ByteArray) (i : Nat) : Bool := decide (bz s 1 + i ∈ needA s)
theorem need_live {s : ByteArray} (hs : isImage s = true) (d : Nat) : ∀ i, i < bz s 2 → bz s 2 ≤ i + d → bz s 1 + i ∈ needA s → liveB s i = true ∧ wantB s i = true := by
  induction d with
  | zero => intro i hi hd; omega
  | succ d ih =>
    intro i hi hd hn
    rw [live_eq s hi]
    unfold wantB
    rcases need_from (bz s 2) (Nat.le_refl _) hn with h | ⟨k, hk, hnk, hfk, hop⟩
    · rw [decide_eq_true h]
      exact ⟨rfl, rfl⟩
    · have hlt := opsAt_lt hs hk _ hop
      have hl := (ih k hk (by omega) hnk).1
      have hf : fixB s k = false := decide_eq_false hfk
      have hik : i < k := by omega
      have e1 : (List.range (bz s 2)).any (fun k => decide (i < k) && (decide (bz s 1 + i ∈ opsAt s k) && liveB s k)) = true := by
        rw [List.any_eq_true]
        exact ⟨k, List.mem_range.2 hk, by rw [decide_eq_true hik, decide_eq_true hop, hl]; rfl⟩
      have e2 : (List.range (bz s 2)).any (fun k => decide (i < k) && (decide (bz s 1 + i ∈ opsAt s k) && (liveB s k && !fixB s k))) = true := by
        rw [List.any_eq_true]
        exact ⟨k, List.mem_range.2 hk, by rw [decide_eq_true hik, decide_eq_true hop, hl, hf]; rfl⟩
      rw [e1, e2]
      exact ⟨Bool.or_true _, Bool.or_true _⟩
/-- how many of the first q instructions are Const -/
def opOf (s : ByteArray) (q : Nat) : Nat := (stepsT s (bz s 2)).getD (4 * q) 0
def czP (s : ByteArray) (q : Nat) : Nat := cntP (fun j => decide (opOf s j = 0)) q
theorem czP_le (s : ByteArray) (q : Nat) : czP s q ≤ q := cntP_le _ _
theorem opOf_node {s : ByteArray} {k : Nat} (hk : k < bz s 2) (hn : bz s 1 + k ∈ needA s) : opOf s (cnt s k) = inOp s k := by
  unfold opOf
  have := stepsT_at hk hn (c := 0) (by omega)
  rw [Nat.add_zero] at this
  rw [this]
  rfl
theorem opOf_zero {s : ByteArray} (hs : isImage s = true) {k : Nat} (hk : k < bz s 2) (hn : bz s 1 + k ∈ needA s) : decide (opOf s (cnt s k) = 0) = fixB s k := by
  rw [opOf_node hk hn]
  unfold fixB
  by_cases hf : bz s 1 + k ∈ fixA s
  · have : inOp s k = 0 := if_pos hf
    rw [this, decide_eq_true hf]; rfl
  · have e : inOp s k = bz s (4 + 3 * k) := if_neg hf
    rw [decide_eq_false hf, e]
    exact decide_eq_false (fix_const hs hk hf)
theorem cz_count {s : ByteArray} (hs : isImage s = true) (k : Nat) (hk : k ≤ bz s 2) : czP s (cnt s k) = cntP (fun i => ndB s i && fixB s i) k ∧ cnt s k - czP s (cnt s k) = cntP (fun i => ndB s i && !fixB s i) k := by
  induction k with
  | zero => exact ⟨rfl, rfl⟩
  | succ k ih =>
    obtain ⟨h1, h2⟩ := ih (by omega)
    by_cases hn : bz s 1 + k ∈ needA s
    · have e : ndB s k = true := decide_eq_true hn
      have ec : cnt s (k + 1) = cnt s k + 1 := by rw [cnt, if_pos hn]
      have ez : czP s (cnt s k + 1) = if fixB s k then czP s (cnt s k) + 1 else czP s (cnt s k) := by
        unfold czP
        rw [cntP, opOf_zero hs (by omega) hn]
      have hle := czP_le s (cnt s k)
      rw [ec, ez, cntP, cntP, e, Bool.true_and, Bool.true_and, h1.symm, h2.symm]
      cases fixB s k
      · simp; omega
      · simp
    · have e : ndB s k = false := decide_eq_false hn
      have ec : cnt s (k + 1) = cnt s k := by rw [cnt, if_neg hn]
      rw [ec, cntP, cntP, e, Bool.false_and, Bool.false_and, h2, h1]
      exact ⟨rfl, rfl⟩
theorem code_bounds {s : ByteArray} (hs : isImage s = true) : czP s (cnt s (bz s 2)) ≤ constsB s ∧ cnt s (bz s 2) - czP s (cnt s (bz s 2)) ≤ othersB s := by
  obtain ⟨h1, h2⟩ := cz_count hs (bz s 2) (Nat.le_refl _)
  rw [h2, h1]
  constructor
  · refine cntP_mono (m := bz s 2) (fun i hi h => ?_) _ (Nat.le_refl _)
    simp only [Bool.and_eq_true] at h ⊢
    have hn := of_decide_eq_true h.1
    have := need_live hs (bz s 2) i hi (by omega) hn
    exact ⟨this.1, h.2, this.2⟩
  · refine cntP_mono (m := bz s 2) (fun i hi h => ?_) _ (Nat.le_refl _)
    simp only [Bool.and_eq_true] at h ⊢
    have hn := of_decide_eq_true h.1
    have := need_live hs (bz s 2) i hi (by omega) hn
    exact ⟨this.1, h.2⟩
end Go.Proofs.Ytjfmiomopfjecaa.M

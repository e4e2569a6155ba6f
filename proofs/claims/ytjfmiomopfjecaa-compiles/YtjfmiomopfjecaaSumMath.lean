/- The sum of P2 in plain Lean: the program's way (a register of 16 bits, eight steps a byte) and the document's (the rest of a division, bit by bit) come to the same number. -/
import Derived.WalkKit
namespace Go.Proofs.Ytjfmiomopfjecaa.M

theorem ofInt_i64 (a : Nat) (ha : a < 9223372036854775808) : (BitVec.ofInt 64 (a : Int)).toNat = a := by
  rw [BitVec.ofInt_natCast, BitVec.toNat_ofNat]; exact Nat.mod_eq_of_lt (by omega)
theorem xor_i64 (a b : Nat) (ha : a < 9223372036854775808) (hb : b < 9223372036854775808) : bits .xor .i64 (a : Int) (b : Int) = ((a ^^^ b : Nat) : Int) := by
  have hx : a ^^^ b < 2 ^ 63 := Nat.xor_lt_two_pow (by omega) (by omega)
  show IntKind.i64.wrap ((BitVec.ofInt 64 (a : Int) ^^^ BitVec.ofInt 64 (b : Int)).toNat : Int) = _
  rw [BitVec.toNat_xor, ofInt_i64 a ha, ofInt_i64 b hb, IntKind.wrap_i64]
  omega
theorem and_i64 (a b : Nat) (ha : a < 9223372036854775808) (hb : b < 9223372036854775808) : bits .and .i64 (a : Int) (b : Int) = ((a &&& b : Nat) : Int) := by
  have hx : a &&& b < 2 ^ 63 := Nat.and_lt_two_pow _ (by omega)
  show IntKind.i64.wrap ((BitVec.ofInt 64 (a : Int) &&& BitVec.ofInt 64 (b : Int)).toNat : Int) = _
  rw [BitVec.toNat_and, ofInt_i64 a ha, ofInt_i64 b hb, IntKind.wrap_i64]
  omega

/-- one step of the register -/
def crcBit (n : Nat) : Nat := if 32768 ≤ n then (n * 2 % 65536) ^^^ 4129 else n * 2 % 65536
def crcs : Nat → Nat → Nat
  | 0, n => n
  | k + 1, n => crcBit (crcs k n)
theorem crcs_succ (k n : Nat) : crcs (k + 1) n = crcBit (crcs k n) := rfl
def crcByte (n b : Nat) : Nat := crcs 8 (n ^^^ b * 256)
def crc (l : List UInt8) : Nat := l.foldl (fun n b => crcByte n b.toNat) 65535

theorem crcBit_lt {n : Nat} (_h : n < 65536) : crcBit n < 65536 := by
  unfold crcBit
  split
  · exact Nat.xor_lt_two_pow (n := 16) (by omega) (by omega)
  · omega
theorem crcs_lt {n : Nat} (h : n < 65536) (k : Nat) : crcs k n < 65536 := by
  induction k with
  | zero => exact h
  | succ k ih => exact crcBit_lt ih
theorem mix_lt {n b : Nat} (h : n < 65536) (hb : b < 256) : n ^^^ b * 256 < 65536 := Nat.xor_lt_two_pow (n := 16) (by omega) (by omega)
theorem crcByte_lt {n b : Nat} (h : n < 65536) (hb : b < 256) : crcByte n b < 65536 := crcs_lt (mix_lt h hb) 8
theorem crc_snoc (l : List UInt8) (c : UInt8) : crc (l ++ [c]) = crcByte (crc l) c.toNat := by simp [crc]
theorem crc_lt (l : List UInt8) : crc l < 65536 := by
  suffices h : ∀ n, n < 65536 → l.foldl (fun n b => crcByte n b.toNat) n < 65536 from h _ (by omega)
  induction l with
  | nil => intro n h; simpa using h
  | cons c l ih =>
    intro n h
    have hc : c.toNat < 256 := c.toNat_lt
    have hn := crcByte_lt h hc
    rw [List.foldl_cons]
    exact ih _ hn

/-- the bits of a step, the highest first -/
theorem top (n : Nat) (h : n < 65536) : n.testBit 15 = decide (32768 ≤ n) := by
  rw [Nat.testBit_eq_decide_div_mod_eq]
  by_cases e : 32768 ≤ n
  · have : n / 2 ^ 15 = 1 := by omega
    simp [this, e]
  · have : n / 2 ^ 15 = 0 := by omega
    simp [this, e]
theorem poly (t : Nat) (h : t < 16) : (4129 : Nat).testBit (15 - t) = decide (t = 3 ∨ t = 10 ∨ t = 15) := by
  have H : ∀ t : Fin 16, (4129 : Nat).testBit (15 - t.val) = decide (t.val = 3 ∨ t.val = 10 ∨ t.val = 15) := by decide
  exact H ⟨t, h⟩
theorem crcBit_bit (n t : Nat) (h : n < 65536) (ht : t < 16) :
    (crcBit n).testBit (15 - t) = ((decide (t < 15) && n.testBit (15 - (t + 1))) ^^ (n.testBit 15 && decide (t = 3 ∨ t = 10 ∨ t = 15))) := by
  have hs : (n * 2 % 65536).testBit (15 - t) = (decide (t < 15) && n.testBit (15 - (t + 1))) := by
    have e : n * 2 % 65536 = (2 * n) % 2 ^ 16 := by omega
    rw [e, Nat.testBit_mod_two_pow]
    by_cases e15 : t < 15
    · have e1 : 15 - t = (15 - (t + 1)) + 1 := by omega
      rw [e1, Nat.testBit_succ]
      have : 2 * n / 2 = n := by omega
      rw [this]
      have : 15 - (t + 1) + 1 < 16 := by omega
      rw [decide_eq_true this, decide_eq_true e15]
    · have e1 : 15 - t = 0 := by omega
      rw [e1]
      simp [e15, Nat.testBit_zero]
  rw [top n h]
  unfold crcBit
  by_cases e : 32768 ≤ n
  · rw [if_pos e, Nat.testBit_xor, hs, poly t ht]; simp [e]
  · rw [if_neg e, hs]; simp [e]

/-- the message's bits -/
def mbit (l : List UInt8) (j : Nat) : Bool := (l.getD (j / 8) 0).toNat.testBit (7 - j % 8)
/-- the document's row of bits behind i steps of the division -/
def rowAt (l : List UInt8) : Nat → Nat → Bool
  | 0, j => mbit l j ^^ decide (j < 16)
  | i + 1, j => if rowAt l i i then (if j = i then false else rowAt l i j ^^ decide (j = i + 4 ∨ j = i + 11 ∨ j = i + 16)) else rowAt l i j

theorem mbit_out (l : List UInt8) (j : Nat) (h : 8 * l.length ≤ j) : mbit l j = false := by
  unfold mbit
  have : l.getD (j / 8) 0 = 0 := by
    rw [List.getD_eq_getElem?_getD, List.getElem?_eq_none (by omega)]; rfl
  rw [this]; simp

/-- THE TIE: in the midst of a byte (k of its bits are done) -/
structure Tie (l : List UInt8) (p k N : Nat) : Prop where
  lt : N < 65536
  win : ∀ t, t < 16 → rowAt l p (p + t) = (N.testBit (15 - t) ^^ (!decide (t + k < 8) && mbit l (p + t)))
  far : ∀ j, p + 16 ≤ j → rowAt l p j = mbit l j

theorem tie_step {l : List UInt8} {p k N : Nat} (h : Tie l p k N) (hk : k < 8) : Tie l (p + 1) (k + 1) (crcBit N) := by
  have h0 : rowAt l p p = N.testBit 15 := by
    have := h.win 0 (by omega)
    simp [hk] at this; exact this
  refine ⟨crcBit_lt h.lt, ?_, ?_⟩
  · intro t ht
    rw [crcBit_bit N t h.lt ht]
    have e : p + 1 + t = p + (t + 1) := by omega
    rw [e]
    have old : rowAt l p (p + (t + 1)) = ((decide (t < 15) && N.testBit (15 - (t + 1))) ^^ (!decide (t + (k + 1) < 8) && mbit l (p + (t + 1)))) := by
      by_cases e15 : t < 15
      · rw [h.win (t + 1) (by omega)]
        have : (t + 1 + k < 8) = (t + (k + 1) < 8) := by rw [Nat.add_assoc, Nat.add_comm 1 k]
        simp [this, e15]
      · have : t = 15 := by omega
        subst this
        rw [h.far _ (by omega)]
        have e8 : ¬ 15 + (k + 1) < 8 := by omega
        simp [e8]
    show (if rowAt l p p then (if p + (t + 1) = p then false else rowAt l p (p + (t + 1)) ^^ decide (p + (t + 1) = p + 4 ∨ p + (t + 1) = p + 11 ∨ p + (t + 1) = p + 16)) else rowAt l p (p + (t + 1))) = _
    rw [h0, old]
    have e1 : ¬ p + (t + 1) = p := by omega
    have e2 : (p + (t + 1) = p + 4 ∨ p + (t + 1) = p + 11 ∨ p + (t + 1) = p + 16) = (t = 3 ∨ t = 10 ∨ t = 15) := by
      apply propext; constructor <;> intro h <;> omega
    rw [if_neg e1]
    simp only [e2]
    cases hb : N.testBit 15
    · simp
    · simp only [if_true, Bool.true_and]
      cases (decide (t < 15) && N.testBit (15 - (t + 1))) <;> cases (!decide (t + (k + 1) < 8) && mbit l (p + (t + 1))) <;> cases decide (t = 3 ∨ t = 10 ∨ t = 15) <;> rfl
  · intro j hj
    show (if rowAt l p p then (if j = p then false else rowAt l p j ^^ decide (j = p + 4 ∨ j = p + 11 ∨ j = p + 16)) else rowAt l p j) = _
    rw [h.far j (by omega)]
    have e1 : ¬ j = p := by omega
    have e2 : ¬ (j = p + 4 ∨ j = p + 11 ∨ j = p + 16) := by omega
    simp [e1, e2]

theorem tie_steps {l : List UInt8} {p N : Nat} (h : Tie l p 0 N) (k : Nat) (hk : k ≤ 8) : Tie l (p + k) k (crcs k N) := by
  induction k with
  | zero => exact h
  | succ k ih => exact tie_step (ih (by omega)) (by omega)

/-- a byte is laid over the register -/
theorem tie_byte {l : List UInt8} {i N : Nat} (h : Tie l (8 * i) 8 N) : Tie l (8 * i) 0 (N ^^^ (l.getD i 0).toNat * 256) := by
  refine ⟨mix_lt h.lt (UInt8.toNat_lt _), ?_, h.far⟩
  intro t ht
  rw [h.win t ht, Nat.testBit_xor]
  have e : (l.getD i 0).toNat * 256 = 2 ^ 8 * (l.getD i 0).toNat := by omega
  rw [e, Nat.testBit_two_pow_mul]
  by_cases h8 : t < 8
  · have e1 : 8 ≤ 15 - t := by omega
    have e2 : 15 - t - 8 = 7 - t := by omega
    have em : mbit l (8 * i + t) = (l.getD i 0).toNat.testBit (7 - t) := by
      unfold mbit
      have a : (8 * i + t) / 8 = i := by omega
      have b : (8 * i + t) % 8 = t := by omega
      rw [a, b]
    rw [em]
    have e3 : ¬ t + 8 < 8 := by omega
    simp [e1, e2, h8, e3]
  · have e1 : ¬ 8 ≤ 15 - t := by omega
    have e3 : ¬ t + 8 < 8 := by omega
    simp [e1, h8, e3]

theorem tie_start (l : List UInt8) : Tie l 0 8 65535 := by
  refine ⟨by omega, ?_, ?_⟩
  · intro t ht
    have H : ∀ t : Fin 16, (65535 : Nat).testBit (15 - t.val) = true := by decide
    have := H ⟨t, ht⟩
    simp only at this
    rw [this]
    have e3 : ¬ t + 8 < 8 := by omega
    simp only [rowAt, Nat.zero_add, ht, e3]
    cases mbit l t <;> rfl
  · intro j hj
    have : ¬ j < 16 := by omega
    simp [rowAt, this]

theorem tie_crc (l : List UInt8) (i : Nat) (hi : i ≤ l.length) : Tie l (8 * i) 8 (crc (l.take i)) := by
  induction i with
  | zero => simpa [crc] using tie_start l
  | succ i ih =>
    have h := tie_steps (tie_byte (ih (by omega))) 8 (by omega)
    have e : l.take (i + 1) = l.take i ++ [l.getD i 0] := by
      rw [List.take_succ_eq_append_getElem (by omega), List.getD_eq_getElem?_getD, List.getElem?_eq_getElem (by omega)]; rfl
    rw [e, crc_snoc]
    exact h

/-- what the document reads off the last 16 bits -/
def tail (l : List UInt8) (k : Nat) : Nat := crc l / 2 ^ (16 - k)
theorem tail_zero (l : List UInt8) : tail l 0 = 0 := by
  have := crc_lt l
  unfold tail
  exact Nat.div_eq_of_lt (by omega)
theorem tail_end (l : List UInt8) : tail l 16 = crc l := by simp [tail]
theorem tail_succ (l : List UInt8) (k : Nat) (hk : k < 16) : tail l (k + 1) = 2 * tail l k + (rowAt l (8 * l.length) (8 * l.length + k)).toNat := by
  have h := tie_crc l l.length (Nat.le_refl _)
  rw [List.take_length] at h
  have hb := h.win k hk
  rw [mbit_out l _ (by omega)] at hb
  simp only [Bool.and_false, Bool.xor_false] at hb
  rw [hb, Nat.testBit_eq_decide_div_mod_eq]
  unfold tail
  have e : 16 - k = (15 - k) + 1 := by omega
  have e' : 16 - (k + 1) = 15 - k := by omega
  rw [e', e, Nat.pow_succ, ← Nat.div_div_eq_div_mul]
  generalize crc l / 2 ^ (15 - k) = x
  rcases Nat.mod_two_eq_zero_or_one x with hx | hx <;> simp [hx] <;> omega
theorem tail_lt (l : List UInt8) (k : Nat) : tail l k < 65536 := Nat.lt_of_le_of_lt (Nat.div_le_self _ _) (crc_lt l)

end Go.Proofs.Ytjfmiomopfjecaa.M

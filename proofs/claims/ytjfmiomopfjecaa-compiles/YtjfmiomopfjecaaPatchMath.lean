/- Patches in plain Lean: what a step is, what it gives, what comes out. -/
import Derived.Test.YtjfmiomopfjecaaNodeMath
namespace Go.Proofs.Ytjfmiomopfjecaa.M

/-- n bytes, by their numbers -/
def mk (n : Nat) (f : Nat → Nat) : ByteArray := bytesOf ((List.range n).map f)
theorem mk_size (n : Nat) (f : Nat → Nat) : (mk n f).size = n := by unfold mk; rw [bytesOf_size]; simp
theorem mk_succ (n : Nat) (f : Nat → Nat) : mk (n + 1) f = mk n f ++ bytesOf [f n] := by
  unfold mk; rw [bytesOf_append, List.range_succ, List.map_append]; rfl
theorem mk_congr {n : Nat} {f g : Nat → Nat} (h : ∀ j, j < n → f j = g j) : mk n f = mk n g := by
  unfold mk
  congr 1
  apply List.map_congr_left
  intro j hj
  exact h j (by simpa using hj)
theorem extract_mk (s : ByteArray) (a n : Nat) (h : a + n ≤ s.size) : s.extract a (a + n) = mk n fun j => bz s (a + j) := by
  conv => lhs; rw [bytesOf_bz s, bytesOf_extract]
  unfold mk
  congr 1
  rw [← List.map_drop, ← List.map_take]
  apply List.ext_getElem?
  intro i
  by_cases hi : i < n
  · have e : a + i < s.size := by omega
    simp [List.getElem?_drop, hi, e]
  · simp [List.getElem?_take, hi]
theorem bz_mk {n : Nat} {f : Nat → Nat} (hf : ∀ j, j < n → f j < 256) {i : Nat} (hi : i < n) : bz (mk n f) i = f i := by
  unfold mk
  rw [bz_bytesOf]
  · simp [hi]
  · intro x hx
    simp only [List.mem_map, List.mem_range] at hx
    obtain ⟨j, hj, rfl⟩ := hx
    exact hf j hj
theorem bz_ext {s t : ByteArray} (hz : s.size = t.size) (h : ∀ j, j < s.size → bz s j = bz t j) : s = t := by
  rw [bytesOf_bz s, bytesOf_bz t, ← hz]
  congr 1
  apply List.map_congr_left
  intro j hj
  exact h j (by simpa using hj)
theorem self_mk (s : ByteArray) : s = mk s.size (bz s) := bytesOf_bz s
theorem bz_append (s t : ByteArray) (i : Nat) : bz (s ++ t) i = if i < s.size then bz s i else bz t (i - s.size) := by
  unfold bz
  rw [List.getD_eq_getElem?_getD, List.getD_eq_getElem?_getD, List.getD_eq_getElem?_getD]
  have e : (s ++ t).data.toList = s.data.toList ++ t.data.toList := by simp
  rw [e, List.getElem?_append]
  have e2 : s.data.toList.length = s.size := by simp
  rw [e2]
  split <;> rfl

def opLen (p : ByteArray) (i : Nat) : Nat :=
  if bz p i = 0 then 3 else if bz p i = 1 then 2 + bz p (i + 1) else if bz p i = 2 then 3 else 3 + bz p (i + 2)
theorem opLen_two (p : ByteArray) (i : Nat) : 2 ≤ opLen p i := by
  unfold opLen
  repeat' split
  all_goals omega
theorem opLen_le (p : ByteArray) (i : Nat) : opLen p i ≤ 258 := by
  have := bz_lt p (i + 1)
  have := bz_lt p (i + 2)
  unfold opLen
  repeat' split
  all_goals omega
def opCount (p : ByteArray) (i : Nat) : Nat :=
  if bz p i = 0 then bz p (i + 2) else if bz p i = 1 then bz p (i + 1) else if bz p i = 2 then bz p (i + 1) else bz p (i + 2)
theorem opCount_le (p : ByteArray) (i : Nat) : opCount p i ≤ 255 := by
  have := bz_lt p (i + 1)
  have := bz_lt p (i + 2)
  unfold opCount
  repeat' split
  all_goals omega
def opThere (p : ByteArray) (i : Nat) : Bool := decide (bz p i ≤ 3) && decide (i + opLen p i ≤ p.size)
def opFits (b p : ByteArray) (i : Nat) : Bool := !(decide (bz p i = 0) || decide (bz p i = 3)) || decide (bz p (i + 1) + bz p (i + 2) ≤ b.size)
def opOk (b p : ByteArray) (i : Nat) : Bool := opThere p i && opFits b p i
def opByte (b p : ByteArray) (i j : Nat) : Nat :=
  if bz p i = 0 then bz b (bz p (i + 1) + j) else if bz p i = 1 then bz p (i + 2 + j) else if bz p i = 2 then bz p (i + 2) else (bz b (bz p (i + 1) + j) + bz p (i + 3 + j)) % 256
def opGives (b p : ByteArray) (i : Nat) : ByteArray := mk (opCount p i) (opByte b p i)
theorem opGives_size (b p : ByteArray) (i : Nat) : (opGives b p i).size = opCount p i := mk_size _ _

/-- what comes out, o being there and the step at i the next one; at most f steps -/
def goN (b p : ByteArray) : Nat → Nat → ByteArray → Option ByteArray
  | 0, i, o => if i < p.size then none else some o
  | f + 1, i, o => if i < p.size then (if opOk b p i then goN b p f (i + opLen p i) (o ++ opGives b p i) else none) else some o
theorem goN_end {b p : ByteArray} {f i : Nat} {o : ByteArray} (h : p.size ≤ i) : goN b p f i o = some o := by
  cases f with
  | zero => rw [goN, if_neg (by omega)]
  | succ f => rw [goN, if_neg (by omega)]
theorem goN_same (b p : ByteArray) (f : Nat) : ∀ f' i o, p.size ≤ i + f → p.size ≤ i + f' → goN b p f i o = goN b p f' i o := by
  induction f with
  | zero =>
    intro f' i o h1 _
    rw [goN_end (by omega), goN_end (by omega)]
  | succ f ih =>
    intro f' i o h1 h2
    by_cases hi : i < p.size
    · cases f' with
      | zero => omega
      | succ f' =>
        have hl := opLen_two p i
        rw [goN, goN, if_pos hi, if_pos hi]
        split
        · exact ih f' _ _ (by omega) (by omega)
        · rfl
    · rw [goN_end (by omega), goN_end (by omega)]
/-- what comes out, o being there and the step at i the next one -/
def goFrom (b p : ByteArray) (i : Nat) (o : ByteArray) : Option ByteArray := goN b p p.size i o
theorem goFrom_step (b p : ByteArray) {i : Nat} (o : ByteArray) (h : i < p.size) : goFrom b p i o = if opOk b p i then goFrom b p (i + opLen p i) (o ++ opGives b p i) else none := by
  unfold goFrom
  have e : goN b p p.size i o = goN b p (p.size - 1 + 1) i o := by congr 1; omega
  rw [e, goN, if_pos h]
  have hl := opLen_two p i
  split
  · exact goN_same b p _ _ _ _ (by omega) (by omega)
  · rfl
theorem goFrom_ok {b p : ByteArray} {i : Nat} {o : ByteArray} (h : i < p.size) (hk : opOk b p i = true) : goFrom b p i o = goFrom b p (i + opLen p i) (o ++ opGives b p i) := by
  rw [goFrom_step b p o h, hk, if_pos rfl]
theorem goFrom_no {b p : ByteArray} {i : Nat} {o : ByteArray} (h : i < p.size) (hk : opOk b p i = false) : goFrom b p i o = none := by
  rw [goFrom_step b p o h, hk]; rfl
theorem goFrom_end {b p : ByteArray} {i : Nat} {o : ByteArray} (h : p.size ≤ i) : goFrom b p i o = some o := goN_end h
theorem opOk_le {b p : ByteArray} {i : Nat} (h : opOk b p i = true) : i + opLen p i ≤ p.size := by
  unfold opOk opThere at h
  simp only [Bool.and_eq_true, decide_eq_true_eq] at h
  exact h.1.2
theorem opOk_what {b p : ByteArray} {i : Nat} (h : opOk b p i = true) : bz p i ≤ 3 := by
  unfold opOk opThere at h
  simp only [Bool.and_eq_true, decide_eq_true_eq] at h
  exact h.1.1
def patchRes (b p : ByteArray) (n : Int) : Option ByteArray := (goFrom b p 0 ⟨#[]⟩).filter fun o => decide ((o.size : Int) = n)
def patchTxt (b p : ByteArray) (n : Int) : ByteArray := (patchRes b p n).getD ⟨#[]⟩
def patchNum (b p : ByteArray) (n : Int) : Int := if (patchRes b p n).isSome then 0 else 4

/-- the rest of a text -/
def suf (p : ByteArray) (i : Nat) : ByteArray := p.extract i p.size
theorem suf_size (p : ByteArray) (i : Nat) : (suf p i).size = p.size - i := by unfold suf; rw [ByteArray.size_extract]; omega
theorem suf_bz (p : ByteArray) (i j : Nat) : bz (suf p i) j = bz p (i + j) := by
  by_cases hi : i ≤ p.size
  · have e : suf p i = mk (p.size - i) fun j => bz p (i + j) := by
      unfold suf
      rw [show p.size = i + (p.size - i) from by omega]
      rw [extract_mk p i (p.size - i) (by omega), show i + (p.size - i) - i = p.size - i from by omega]
    by_cases hj : j < p.size - i
    · rw [e, bz_mk (fun _ _ => bz_lt _ _) hj]
    · rw [bz_out _ _ (by rw [suf_size]; omega), bz_out _ _ (by omega)]
  · rw [bz_out _ _ (by rw [suf_size]; omega), bz_out _ _ (by omega)]
theorem suf_zero (p : ByteArray) : suf p 0 = p := bz_ext (by rw [suf_size]; omega) (fun j _ => by rw [suf_bz, Nat.zero_add])
theorem suf_suf (p : ByteArray) (i j : Nat) : suf (suf p i) j = suf p (i + j) :=
  bz_ext (by rw [suf_size, suf_size, suf_size]; omega) (fun k _ => by rw [suf_bz, suf_bz, suf_bz, Nat.add_assoc])
theorem suf_len (p : ByteArray) (i : Nat) : opLen (suf p i) 0 = opLen p i := by unfold opLen; simp only [suf_bz, Nat.add_zero, Nat.zero_add]
theorem suf_count (p : ByteArray) (i : Nat) : opCount (suf p i) 0 = opCount p i := by unfold opCount; simp only [suf_bz, Nat.add_zero, Nat.zero_add]
theorem suf_ok (b p : ByteArray) (i : Nat) (h : i < p.size) : opOk b (suf p i) 0 = opOk b p i := by
  unfold opOk opThere opFits
  rw [suf_len, suf_size]
  have := opLen_two p i
  simp only [suf_bz, Nat.add_zero, Nat.zero_add]
  have e : decide (opLen p i ≤ p.size - i) = decide (i + opLen p i ≤ p.size) := by rw [decide_eq_decide]; omega
  rw [e]
theorem suf_gives (b p : ByteArray) (i : Nat) : opGives b (suf p i) 0 = opGives b p i := by
  unfold opGives
  rw [suf_count]
  refine mk_congr fun j _ => ?_
  unfold opByte
  simp only [suf_bz, Nat.add_zero, Nat.zero_add, Nat.add_assoc]
end Go.Proofs.Ytjfmiomopfjecaa.M

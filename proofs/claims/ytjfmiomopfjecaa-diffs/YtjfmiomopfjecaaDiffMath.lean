/- Diff in plain Lean: with how many bytes two texts begin alike, the patch that the program gives, and what comes out of it. -/
import Derived.Test.YtjfmiomopfjecaaPatchMath
namespace Go.Proofs.Ytjfmiomopfjecaa.M

def alkF (a b : ByteArray) : Nat → Nat → Nat
  | 0, k => k
  | f + 1, k => if k < a.size ∧ k < b.size ∧ bz a k = bz b k then alkF a b f (k + 1) else k
/-- with how many bytes both begin -/
def alk (a b : ByteArray) : Nat := alkF a b a.size 0
theorem alkF_go {a b : ByteArray} {k : Nat} (h : k < a.size ∧ k < b.size ∧ bz a k = bz b k) : alkF a b (a.size - k) k = alkF a b (a.size - (k + 1)) (k + 1) := by
  rw [show a.size - k = (a.size - (k + 1)) + 1 from by omega, alkF, if_pos h]
theorem alkF_stop {a b : ByteArray} {f k : Nat} (h : ¬ (k < a.size ∧ k < b.size ∧ bz a k = bz b k)) : alkF a b f k = k := by
  cases f with
  | zero => rfl
  | succ f => rw [alkF, if_neg h]
theorem alkF_le (a b : ByteArray) (f k : Nat) (h1 : k ≤ a.size) (h2 : k ≤ b.size) : alkF a b f k ≤ a.size ∧ alkF a b f k ≤ b.size := by
  induction f generalizing k with
  | zero => exact ⟨h1, h2⟩
  | succ f ih =>
    rw [alkF]
    split
    · exact ih (k + 1) (by omega) (by omega)
    · exact ⟨h1, h2⟩
theorem alkF_eq (a b : ByteArray) (f k : Nat) (h : ∀ j, j < k → bz a j = bz b j) : ∀ j, j < alkF a b f k → bz a j = bz b j := by
  induction f generalizing k with
  | zero => exact h
  | succ f ih =>
    rw [alkF]
    split
    · rename_i hc
      refine ih (k + 1) fun j hj => ?_
      by_cases e : j = k
      · subst e; exact hc.2.2
      · exact h j (by omega)
    · exact h
theorem alkF_self (a : ByteArray) (f k : Nat) (h : k + f = a.size) : alkF a a f k = a.size := by
  induction f generalizing k with
  | zero => show k = _; omega
  | succ f ih => rw [alkF, if_pos ⟨by omega, by omega, rfl⟩]; exact ih (k + 1) (by omega)
theorem alk_le (a b : ByteArray) : alk a b ≤ a.size ∧ alk a b ≤ b.size := alkF_le a b _ 0 (by omega) (by omega)
theorem alk_eq (a b : ByteArray) : ∀ j, j < alk a b → bz a j = bz b j := alkF_eq a b _ 0 (by intro j hj; omega)
theorem alk_self (a : ByteArray) : alk a a = a.size := alkF_self a _ 0 (by omega)

def copyT (n : Nat) : ByteArray := if n = 0 then ⟨#[]⟩ else bytesOf [0, 0, n]
def giveT (s : ByteArray) : ByteArray := if s.size = 0 then ⟨#[]⟩ else bytesOf [1, s.size] ++ s
def restT (s : ByteArray) (n : Nat) : ByteArray := mk (s.size - n) fun j => bz s (n + j)
def shortT (b t : ByteArray) : ByteArray := copyT (alk b t) ++ giveT (restT t (alk b t))
def diffT (b t : ByteArray) : ByteArray := if (shortT b t).size < (giveT t).size then shortT b t else giveT t
theorem restT_size (s : ByteArray) (n : Nat) : (restT s n).size = s.size - n := mk_size _ _
theorem copyT_size (n : Nat) : (copyT n).size = if n = 0 then 0 else 3 := by
  unfold copyT
  split <;> rfl
theorem giveT_size (s : ByteArray) : (giveT s).size = if s.size = 0 then 0 else 2 + s.size := by
  unfold giveT
  split
  · rfl
  · rw [ByteArray.size_append]; rfl
theorem shortT_size (b t : ByteArray) : (shortT b t).size = (if alk b t = 0 then 0 else 3) + (if t.size - alk b t = 0 then 0 else 2 + (t.size - alk b t)) := by
  unfold shortT
  rw [ByteArray.size_append, copyT_size, giveT_size, restT_size]
theorem diffT_two (b t : ByteArray) : (diffT b t).size ≤ t.size + 2 := by
  unfold diffT
  have := giveT_size t
  split at this <;> split <;> omega
theorem diffT_five (b t : ByteArray) : (diffT b t).size + alk b t ≤ t.size + 5 := by
  have h := alk_le b t
  have h1 := shortT_size b t
  have h2 := giveT_size t
  unfold diffT
  split at h1 <;> split at h1 <;> split at h2 <;> split <;> omega
theorem diffT_same (b : ByteArray) : (diffT b b).size ≤ 3 := by
  have h := alk_self b
  have h1 := shortT_size b b
  have h2 := giveT_size b
  unfold diffT
  rw [h] at h1
  split at h1 <;> split at h1 <;> split at h2 <;> split <;> omega

theorem nil_append (s : ByteArray) : (⟨#[]⟩ : ByteArray) ++ s = s := ByteArray.empty_append
theorem append_nil (s : ByteArray) : s ++ (⟨#[]⟩ : ByteArray) = s := ByteArray.append_empty
theorem give_go (b x s o : ByteArray) (hs : s.size ≤ 255) : goFrom b (x ++ giveT s) x.size o = some (o ++ s) := by
  by_cases h : s.size = 0
  · have e : giveT s = ⟨#[]⟩ := if_pos h
    have e2 : s = ⟨#[]⟩ := bz_ext (by rw [h]; rfl) (fun j hj => by omega)
    rw [e, append_nil, goFrom_end (Nat.le_refl _), e2, append_nil]
  · have e : giveT s = bytesOf [1, s.size] ++ s := if_neg h
    have hz : (x ++ giveT s).size = x.size + (2 + s.size) := by rw [ByteArray.size_append, giveT_size, if_neg h]
    have all : AllB [1, s.size] := by intro y hy; simp at hy; omega
    have e2 : (bytesOf [1, s.size]).size = 2 := rfl
    have b0 : bz (x ++ giveT s) x.size = 1 := by
      rw [bz_append, if_neg (by omega), e, bz_append, if_pos (by rw [e2]; omega), bz_bytesOf all, Nat.sub_self]; rfl
    have b1 : bz (x ++ giveT s) (x.size + 1) = s.size := by
      rw [bz_append, if_neg (by omega), e, bz_append, if_pos (by rw [e2]; omega), bz_bytesOf all, show x.size + 1 - x.size = 1 from by omega]; rfl
    have b2 : ∀ j, bz (x ++ giveT s) (x.size + 2 + j) = bz s j := by
      intro j
      rw [bz_append, if_neg (by omega), e, bz_append, if_neg (by rw [e2]; omega), e2]
      congr 1
      omega
    have hl : opLen (x ++ giveT s) x.size = 2 + s.size := by simp [opLen, b0, b1]
    have hok : opOk b (x ++ giveT s) x.size = true := by
      unfold opOk opThere opFits
      rw [hl, b0, hz]
      simp
    have hg : opGives b (x ++ giveT s) x.size = s := by
      have hc : opCount (x ++ giveT s) x.size = s.size := by simp [opCount, b0, b1]
      unfold opGives
      rw [hc]
      refine Eq.trans (mk_congr fun j hj => ?_) (self_mk s).symm
      unfold opByte
      rw [b0, if_neg (by omega), if_pos rfl, b2]
    rw [goFrom_ok (by omega) hok, hg, hl, goFrom_end (by omega)]
theorem copy_go (b y : ByteArray) (n : Nat) (hn : n ≤ 255) (hb : n ≤ b.size) : goFrom b (copyT n ++ y) 0 ⟨#[]⟩ = goFrom b (copyT n ++ y) (copyT n).size (mk n (bz b)) := by
  by_cases h : n = 0
  · subst h
    rfl
  · have e : copyT n = bytesOf [0, 0, n] := if_neg h
    have hz : (copyT n).size = 3 := by rw [copyT_size, if_neg h]
    have hz2 : (copyT n ++ y).size = 3 + y.size := by rw [ByteArray.size_append, hz]
    have all : AllB [0, 0, n] := by intro y hy; simp at hy; omega
    have b0 : bz (copyT n ++ y) 0 = 0 := by rw [bz_append, if_pos (by omega), e, bz_bytesOf all]; rfl
    have b1 : bz (copyT n ++ y) 1 = 0 := by rw [bz_append, if_pos (by omega), e, bz_bytesOf all]; rfl
    have b2 : bz (copyT n ++ y) 2 = n := by rw [bz_append, if_pos (by omega), e, bz_bytesOf all]; rfl
    have hl : opLen (copyT n ++ y) 0 = 3 := by simp [opLen, b0]
    have hok : opOk b (copyT n ++ y) 0 = true := by
      unfold opOk opThere opFits
      rw [hl, b0, Nat.zero_add, Nat.zero_add, b1, b2, hz2]
      simp [hb]
    have hg : opGives b (copyT n ++ y) 0 = mk n (bz b) := by
      have hc : opCount (copyT n ++ y) 0 = n := by simp [opCount, b0, b2]
      unfold opGives
      rw [hc]
      refine mk_congr fun j hj => ?_
      unfold opByte
      rw [b0, if_pos rfl, Nat.zero_add, b1, Nat.zero_add]
    rw [goFrom_ok (by omega) hok, hg, hl, hz, nil_append]
theorem diff_go (b t : ByteArray) (ht : t.size ≤ 96) : goFrom b (diffT b t) 0 ⟨#[]⟩ = some t := by
  unfold diffT
  split
  · have h := alk_le b t
    unfold shortT
    rw [copy_go b _ (alk b t) (by omega) (by omega), give_go _ _ _ _ (by rw [restT_size]; omega)]
    congr 1
    refine bz_ext ?_ fun j hj => ?_
    · rw [ByteArray.size_append, mk_size, restT_size]; omega
    · rw [ByteArray.size_append, mk_size, restT_size] at hj
      rw [bz_append, mk_size]
      split
      · rename_i hlt
        rw [bz_mk (fun _ _ => bz_lt _ _) hlt]
        exact alk_eq b t j hlt
      · unfold restT
        rw [bz_mk (fun _ _ => bz_lt _ _) (by omega)]
        congr 1
        omega
  · have h := give_go b ⟨#[]⟩ t ⟨#[]⟩ (by omega)
    rw [nil_append, nil_append] at h
    exact h
end Go.Proofs.Ytjfmiomopfjecaa.M

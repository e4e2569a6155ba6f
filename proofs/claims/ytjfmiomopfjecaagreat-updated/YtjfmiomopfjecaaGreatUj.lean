/- Texts laid together: KeepMan, DiffMath, KeepPatch, KeepBegin, PatchRef, PatchRefTwo, PatchRun, DiffWalk, KeepMade, KeepUpd. -/
import Derived.Test.YtjfmiomopfjecaaGreatUi
import Derived.Test.YtjfmiomopfjecaaGreatUa
import Derived.Test.YtjfmiomopfjecaaGreatUe
import Derived.Test.YtjfmiomopfjecaaGreatUb
import Derived.BigQuiet
import Derived.Test.YtjfmiomopfjecaaGreatUc
import Derived.Test.YtjfmiomopfjecaaGreatUd
import Derived.Test.YtjfmiomopfjecaaGreatUf
import Derived.Test.YtjfmiomopfjecaaGreatUg
import Derived.Test.YtjfmiomopfjecaaGreatUh
/- What the laws seal is a manifest. -/
namespace Go.Proofs.YtjfmiomopfjecaaGreat
open Go.RowKit Go.Lib

section
variable {key ex : ByteArray} {L : List Nat} {p c : Nat}
/-- an example, as a manifest holds it: none, or one of a question and an answer -/
def ExOk (ex : ByteArray) : Prop := (ex.size = 1 ∧ M.bz ex 0 = 0) ∨ (3 ≤ ex.size ∧ M.bz ex 0 = 1 ∧ M.bz ex 1 ≤ 8 ∧ M.bz ex 2 ≤ 8 ∧ ex.size = 3 + M.bz ex 1 + M.bz ex 2)
theorem body_low (hL : ∀ x ∈ L, x < 256) {i : Nat} (hi : i < L.length) : M.bz (M.bytesOf L ++ ex) i = L.getD i 0 := by
  rw [M.bz_append, M.bytesOf_size, if_pos hi, M.bz_bytesOf hL]
theorem body_high (i : Nat) : M.bz (M.bytesOf L ++ ex) (L.length + i) = M.bz ex i := by
  rw [M.bz_append, M.bytesOf_size, if_neg (by omega)]
  congr 1
  omega
theorem body_size : (M.bytesOf L ++ ex).size = L.length + ex.size := by simp [M.bytesOf_size]
theorem seal_man (hL : ∀ x ∈ L, x < 256) (h4 : L.getD 4 0 = p) (hp1 : 1 ≤ p) (hp : p ≤ 96) (h5 : 1 ≤ L.getD 5 0) (h5' : L.getD 5 0 ≤ 96) (hlen : L.length = 8 + 2 * M.chunksN p) (hx : ExOk ex)
    (hc : M.crc (key ++ (M.bytesOf L ++ ex)).data.toList = c) :
    M.isManifest key (M.bytesOf L ++ ex ++ M.bytesOf [c / 256, c % 256]) = true := by
  have hcl : c < 65536 := by rw [← hc]; exact M.crc_lt _
  have hbs := body_size (L := L) (ex := ex)
  have hlow : ∀ i, i < L.length → M.bz (M.bytesOf L ++ ex ++ M.bytesOf [c / 256, c % 256]) i = L.getD i 0 := fun i hi => by
    rw [M.bz_append, hbs, if_pos (by omega), body_low hL hi]
  have hmid : ∀ i, i < ex.size → M.bz (M.bytesOf L ++ ex ++ M.bytesOf [c / 256, c % 256]) (L.length + i) = M.bz ex i := fun i hi => by
    rw [M.bz_append, hbs, if_pos (by omega), body_high]
  have htop : ∀ i, M.bz (M.bytesOf L ++ ex ++ M.bytesOf [c / 256, c % 256]) (L.length + ex.size + i) = [c / 256, c % 256].getD i 0 := fun i => by
    rw [M.bz_append, hbs, if_neg (by omega), M.bz_bytesOf (by intro x hx; simp at hx; omega)]
    congr 1
    omega
  have hsz : (M.bytesOf L ++ ex ++ M.bytesOf [c / 256, c % 256]).size = L.length + ex.size + 2 := by
    simp [M.bytesOf_size]
  have hall : M.mk (L.length + ex.size) (M.bz (M.bytesOf L ++ ex ++ M.bytesOf [c / 256, c % 256])) = M.bytesOf L ++ ex := by
    refine M.bz_ext (by rw [M.mk_size, hbs]) fun i hi => ?_
    rw [M.mk_size] at hi
    rw [M.bz_mk (fun j _ => M.bz_lt _ _) hi, M.bz_append, hbs, if_pos hi]
  generalize M.bytesOf L ++ ex ++ M.bytesOf [c / 256, c % 256] = s at *
  have e4 : M.bz s 4 = p := by rw [hlow 4 (by omega), h4]
  have e5 : M.bz s 5 = L.getD 5 0 := hlow 5 (by omega)
  have hseal : M.sealOf (M.bz s) s.size = some (L.length + ex.size) := by
    unfold M.sealOf
    rw [e4, e5, hsz, ← hlen, if_neg (by omega)]
    rcases hx with ⟨hx1, hx0⟩ | ⟨hx3, hx0, hx1, hx2, hxs⟩
    · have m0 := hmid 0 (by omega)
      rw [Nat.add_zero] at m0
      rw [if_neg (by omega), if_pos (by rw [m0, hx0])]
      congr 1
      omega
    · have m0 := hmid 0 (by omega)
      rw [Nat.add_zero] at m0
      have m1 := hmid 1 (by omega)
      have m2 := hmid 2 (by omega)
      have a1 : 9 + 2 * M.chunksN p = L.length + 1 := by omega
      have a2 : 10 + 2 * M.chunksN p = L.length + 2 := by omega
      rw [if_neg (by omega), if_neg (by rw [m0, hx0]; omega), if_pos (by rw [m0, hx0]), a1, a2, m1, m2, if_neg (by omega)]
      congr 1
      omega
  have t0 := htop 0
  have t1 := htop 1
  rw [Nat.add_zero] at t0
  unfold M.isManifest
  rw [hseal]
  show (decide (s.size = L.length + ex.size + 2) && decide (M.bz s (L.length + ex.size) * 256 + M.bz s (L.length + ex.size + 1) = M.crc (key ++ M.mk (L.length + ex.size) (M.bz s)).data.toList)) = true
  rw [hall, hc, t0, t1, hsz]
  simp
  omega
theorem seal_low (hL : ∀ x ∈ L, x < 256) {i : Nat} (hi : i < L.length) : M.bz (M.bytesOf L ++ ex ++ M.bytesOf [c / 256, c % 256]) i = L.getD i 0 := by
  rw [M.bz_append, body_size, if_pos (by omega), body_low hL hi]
theorem seal_mid {i : Nat} (hi : i < ex.size) : M.bz (M.bytesOf L ++ ex ++ M.bytesOf [c / 256, c % 256]) (L.length + i) = M.bz ex i := by
  rw [M.bz_append, body_size, if_pos (by omega), body_high]
theorem chL_at (j : M.Job) {k i : Nat} (h : i < k) : (chL j k).getD (2 * i) 0 = M.crc (M.chunkT j i).data.toList / 256 ∧ (chL j k).getD (2 * i + 1) 0 = M.crc (M.chunkT j i).data.toList % 256 := by
  induction k with
  | zero => omega
  | succ k ih =>
    have hl := chL_length j k
    unfold chL
    rw [List.getD_eq_getElem?_getD, List.getD_eq_getElem?_getD]
    by_cases e : i = k
    · subst e
      rw [List.getElem?_append_right (by omega), List.getElem?_append_right (by omega), hl]
      rw [show 2 * i - 2 * i = 0 from by omega, show 2 * i + 1 - 2 * i = 1 from by omega]
      exact ⟨rfl, rfl⟩
    · rw [List.getElem?_append_left (by omega), List.getElem?_append_left (by omega), ← List.getD_eq_getElem?_getD, ← List.getD_eq_getElem?_getD]
      exact ih (by omega)
theorem chL_all (j : M.Job) (k : Nat) : ∀ x ∈ chL j k, x < 256 := by
  induction k with
  | zero => intro x hx; cases hx
  | succ k ih =>
    intro x hx
    unfold chL at hx
    rcases List.mem_append.1 hx with h | h
    · exact ih x h
    · have := M.crc_lt (M.chunkT j k).data.toList
      simp at h
      omega
theorem headL_all (j : M.Job) {ba u : Nat} (hb : ba ≤ 65535) (hu : u ≤ 65535) (hp : j.patch.size ≤ 96) (hn : j.now.size ≤ 96) : ∀ x ∈ headL j ba u, x < 256 := by
  intro x hx
  have := M.crc_lt j.now.data.toList
  unfold headL at hx
  simp at hx
  omega
theorem jobOk_of (j : M.Job) (ex : ByteArray) (hold : M.isImage j.old = true) (hnow : M.isImage j.now = true) (hl : j.base < j.up) (ht : j.up ≤ 65535) (hp1 : 1 ≤ j.patch.size) (hp : j.patch.size ≤ 96)
    (hg : M.patchRes j.old j.patch j.now.size = some j.now) (hx : ExOk ex)
    (hev : M.bz ex 0 = 1 → evalNum j.now (M.mk (M.bz ex 1) fun k => M.bz ex (3 + k)) = 0 ∧ evalTxt j.now (M.mk (M.bz ex 1) fun k => M.bz ex (3 + k)) = M.mk (M.bz ex 2) fun k => M.bz ex (3 + M.bz ex 1 + k))
    (hm : j.man = sealedT j ex j.base j.up) : M.JobOk j := by
  obtain ⟨h0, h1, h2, h3, h4, h5, h6⟩ := M.headOk_eq (image_head hnow)
  have hn1 : 1 ≤ j.now.size := by omega
  have hn : j.now.size ≤ 96 := by omega
  have hL : ∀ x ∈ headL j j.base j.up ++ chL j (M.chunksN j.patch.size), x < 256 := by
    intro x hx
    rcases List.mem_append.1 hx with h | h
    · exact headL_all j (by omega) ht hp hn x h
    · exact chL_all j _ x h
  have hlen : (headL j j.base j.up ++ chL j (M.chunksN j.patch.size)).length = 8 + 2 * M.chunksN j.patch.size := by rw [List.length_append, chL_length]; rfl
  have hlo : ∀ i, i < 8 + 2 * M.chunksN j.patch.size → M.bz j.man i = (headL j j.base j.up ++ chL j (M.chunksN j.patch.size)).getD i 0 := fun i hi => by
    rw [hm]
    exact seal_low hL (by omega)
  have hmi : ∀ i, i < ex.size → M.bz j.man (8 + 2 * M.chunksN j.patch.size + i) = M.bz ex i := fun i hi => by
    rw [hm, ← hlen]
    exact seal_mid hi
  refine ⟨hold, hnow, hl, ht, hp1, hp, hg, ?_, ?_, ?_, ?_, ?_, ?_, fun i hi => ?_, fun h1 => ?_⟩
  · rw [hm]
    exact seal_man hL (p := j.patch.size) rfl hp1 hp hn1 hn hlen hx rfl
  · rw [hlo 0 (by omega), hlo 1 (by omega)]
    show j.up / 256 * 256 + j.up % 256 = _
    omega
  · rw [hlo 2 (by omega), hlo 3 (by omega)]
    show j.base / 256 * 256 + j.base % 256 = _
    omega
  · rw [hlo 4 (by omega)]; rfl
  · rw [hlo 5 (by omega)]; rfl
  · rw [hlo 6 (by omega), hlo 7 (by omega)]
    show M.crc j.now.data.toList / 256 * 256 + M.crc j.now.data.toList % 256 = _
    omega
  · rw [hlo _ (by omega), hlo _ (by omega), List.getD_eq_getElem?_getD, List.getD_eq_getElem?_getD, List.getElem?_append_right (by show 8 ≤ _; omega), List.getElem?_append_right (by show 8 ≤ _; omega), ← List.getD_eq_getElem?_getD, ← List.getD_eq_getElem?_getD]
    rw [show 8 + 2 * i - (headL j j.base j.up).length = 2 * i from by show 8 + 2 * i - 8 = _; omega, show 9 + 2 * i - (headL j j.base j.up).length = 2 * i + 1 from by show 9 + 2 * i - 8 = _; omega]
    rw [(chL_at j hi).1, (chL_at j hi).2]
    omega
  · have hz : 1 ≤ ex.size := by rcases hx with ⟨a, _⟩ | ⟨a, _⟩ <;> omega
    have m0 := hmi 0 (by omega)
    rw [Nat.add_zero] at m0
    rw [m0] at h1
    rcases hx with ⟨_, hx0⟩ | ⟨hx3, _, hx1, hx2, hxs⟩
    · omega
    · have hh := hev h1
      rw [hmi 1 (by omega), hmi 2 (by omega)]
      have q1 : (M.mk (M.bz ex 1) fun k => M.bz j.man (8 + 2 * M.chunksN j.patch.size + 3 + k)) = M.mk (M.bz ex 1) fun k => M.bz ex (3 + k) := M.mk_congr fun k hk => by
        rw [Nat.add_assoc, hmi _ (by omega)]
      have q2 : (M.mk (M.bz ex 2) fun k => M.bz j.man (8 + 2 * M.chunksN j.patch.size + 3 + M.bz ex 1 + k)) = M.mk (M.bz ex 2) fun k => M.bz ex (3 + M.bz ex 1 + k) := M.mk_congr fun k hk => by
        rw [show 8 + 2 * M.chunksN j.patch.size + 3 + M.bz ex 1 + k = 8 + 2 * M.chunksN j.patch.size + (3 + M.bz ex 1 + k) from by omega, hmi _ (by omega)]
      rw [q1, q2]
      exact hh
end
end Go.Proofs.YtjfmiomopfjecaaGreat

/- Diff in plain Lean: with how many bytes two texts begin alike, the patch that the program gives, and what comes out of it. -/
namespace Go.Proofs.YtjfmiomopfjecaaGreat.M

def alkF (a b : ByteArray) : Nat → Nat → Nat
  | 0, k => k
  | f + 1, k => if k < a.size ∧ k < b.size ∧ bz a k = bz b k then alkF a b f (k + 1) else k
/-- with how many bytes both begin -/
def alk (a b : ByteArray) : Nat := alkF a b a.size 0
theorem alkF_go {a b : ByteArray} {k : Nat} (h : k < a.size ∧ k < b.size ∧ bz a k = bz b k) : alkF a b (a.size - k) k = alkF a b (a.size - (k + 1)) (k + 1) := by
  rw [show a.size - k = (a.size - (k + 1)) + 1 from by omega, alkF, if_pos h]
theorem alkF_stop {a b : ByteArray} {f k : Nat} (h : ¬ (k < a.size ∧ k < b.size ∧ bz a k = bz b k)) : alkF a b f k = k := by
  cases f with
  | zero => rfl
  | succ f => rw [alkF, if_neg h]
theorem alkF_le (a b : ByteArray) (f k : Nat) (h1 : k ≤ a.size) (h2 : k ≤ b.size) : alkF a b f k ≤ a.size ∧ alkF a b f k ≤ b.size := by
  induction f generalizing k with
  | zero => exact ⟨h1, h2⟩
  | succ f ih =>
    rw [alkF]
    split
    · exact ih (k + 1) (by omega) (by omega)
    · exact ⟨h1, h2⟩
theorem alkF_eq (a b : ByteArray) (f k : Nat) (h : ∀ j, j < k → bz a j = bz b j) : ∀ j, j < alkF a b f k → bz a j = bz b j := by
  induction f generalizing k with
  | zero => exact h
  | succ f ih =>
    rw [alkF]
    split
    · rename_i hc
      refine ih (k + 1) fun j hj => ?_
      by_cases e : j = k
      · subst e; exact hc.2.2
      · exact h j (by omega)
    · exact h
theorem alkF_self (a : ByteArray) (f k : Nat) (h : k + f = a.size) : alkF a a f k = a.size := by
  induction f generalizing k with
  | zero => show k = _; omega
  | succ f ih => rw [alkF, if_pos ⟨by omega, by omega, rfl⟩]; exact ih (k + 1) (by omega)
theorem alk_le (a b : ByteArray) : alk a b ≤ a.size ∧ alk a b ≤ b.size := alkF_le a b _ 0 (by omega) (by omega)
theorem alk_eq (a b : ByteArray) : ∀ j, j < alk a b → bz a j = bz b j := alkF_eq a b _ 0 (by intro j hj; omega)
theorem alk_self (a : ByteArray) : alk a a = a.size := alkF_self a _ 0 (by omega)

def copyT (n : Nat) : ByteArray := if n = 0 then ⟨#[]⟩ else bytesOf [0, 0, n]
def giveT (s : ByteArray) : ByteArray := if s.size = 0 then ⟨#[]⟩ else bytesOf [1, s.size] ++ s
def restT (s : ByteArray) (n : Nat) : ByteArray := mk (s.size - n) fun j => bz s (n + j)
def shortT (b t : ByteArray) : ByteArray := copyT (alk b t) ++ giveT (restT t (alk b t))
def diffT (b t : ByteArray) : ByteArray := if (shortT b t).size < (giveT t).size then shortT b t else giveT t
theorem restT_size (s : ByteArray) (n : Nat) : (restT s n).size = s.size - n := mk_size _ _
theorem copyT_size (n : Nat) : (copyT n).size = if n = 0 then 0 else 3 := by
  unfold copyT
  split <;> rfl
theorem giveT_size (s : ByteArray) : (giveT s).size = if s.size = 0 then 0 else 2 + s.size := by
  unfold giveT
  split
  · rfl
  · rw [ByteArray.size_append]; rfl
theorem shortT_size (b t : ByteArray) : (shortT b t).size = (if alk b t = 0 then 0 else 3) + (if t.size - alk b t = 0 then 0 else 2 + (t.size - alk b t)) := by
  unfold shortT
  rw [ByteArray.size_append, copyT_size, giveT_size, restT_size]
theorem diffT_two (b t : ByteArray) : (diffT b t).size ≤ t.size + 2 := by
  unfold diffT
  have := giveT_size t
  split at this <;> split <;> omega
theorem diffT_five (b t : ByteArray) : (diffT b t).size + alk b t ≤ t.size + 5 := by
  have h := alk_le b t
  have h1 := shortT_size b t
  have h2 := giveT_size t
  unfold diffT
  split at h1 <;> split at h1 <;> split at h2 <;> split <;> omega
theorem diffT_same (b : ByteArray) : (diffT b b).size ≤ 3 := by
  have h := alk_self b
  have h1 := shortT_size b b
  have h2 := giveT_size b
  unfold diffT
  rw [h] at h1
  split at h1 <;> split at h1 <;> split at h2 <;> split <;> omega

theorem nil_append (s : ByteArray) : (⟨#[]⟩ : ByteArray) ++ s = s := ByteArray.empty_append
theorem append_nil (s : ByteArray) : s ++ (⟨#[]⟩ : ByteArray) = s := ByteArray.append_empty
theorem give_go (b x s o : ByteArray) (hs : s.size ≤ 255) : goFrom b (x ++ giveT s) x.size o = some (o ++ s) := by
  by_cases h : s.size = 0
  · have e : giveT s = ⟨#[]⟩ := if_pos h
    have e2 : s = ⟨#[]⟩ := bz_ext (by rw [h]; rfl) (fun j hj => by omega)
    rw [e, append_nil, goFrom_end (Nat.le_refl _), e2, append_nil]
  · have e : giveT s = bytesOf [1, s.size] ++ s := if_neg h
    have hz : (x ++ giveT s).size = x.size + (2 + s.size) := by rw [ByteArray.size_append, giveT_size, if_neg h]
    have all : AllB [1, s.size] := by intro y hy; simp at hy; omega
    have e2 : (bytesOf [1, s.size]).size = 2 := rfl
    have b0 : bz (x ++ giveT s) x.size = 1 := by
      rw [bz_append, if_neg (by omega), e, bz_append, if_pos (by rw [e2]; omega), bz_bytesOf all, Nat.sub_self]; rfl
    have b1 : bz (x ++ giveT s) (x.size + 1) = s.size := by
      rw [bz_append, if_neg (by omega), e, bz_append, if_pos (by rw [e2]; omega), bz_bytesOf all, show x.size + 1 - x.size = 1 from by omega]; rfl
    have b2 : ∀ j, bz (x ++ giveT s) (x.size + 2 + j) = bz s j := by
      intro j
      rw [bz_append, if_neg (by omega), e, bz_append, if_neg (by rw [e2]; omega), e2]
      congr 1
      omega
    have hl : opLen (x ++ giveT s) x.size = 2 + s.size := by simp [opLen, b0, b1]
    have hok : opOk b (x ++ giveT s) x.size = true := by
      unfold opOk opThere opFits
      rw [hl, b0, hz]
      simp
    have hg : opGives b (x ++ giveT s) x.size = s := by
      have hc : opCount (x ++ giveT s) x.size = s.size := by simp [opCount, b0, b1]
      unfold opGives
      rw [hc]
      refine Eq.trans (mk_congr fun j hj => ?_) (self_mk s).symm
      unfold opByte
      rw [b0, if_neg (by omega), if_pos rfl, b2]
    rw [goFrom_ok (by omega) hok, hg, hl, goFrom_end (by omega)]
theorem copy_go (b y : ByteArray) (n : Nat) (hn : n ≤ 255) (hb : n ≤ b.size) : goFrom b (copyT n ++ y) 0 ⟨#[]⟩ = goFrom b (copyT n ++ y) (copyT n).size (mk n (bz b)) := by
  by_cases h : n = 0
  · subst h
    rfl
  · have e : copyT n = bytesOf [0, 0, n] := if_neg h
    have hz : (copyT n).size = 3 := by rw [copyT_size, if_neg h]
    have hz2 : (copyT n ++ y).size = 3 + y.size := by rw [ByteArray.size_append, hz]
    have all : AllB [0, 0, n] := by intro y hy; simp at hy; omega
    have b0 : bz (copyT n ++ y) 0 = 0 := by rw [bz_append, if_pos (by omega), e, bz_bytesOf all]; rfl
    have b1 : bz (copyT n ++ y) 1 = 0 := by rw [bz_append, if_pos (by omega), e, bz_bytesOf all]; rfl
    have b2 : bz (copyT n ++ y) 2 = n := by rw [bz_append, if_pos (by omega), e, bz_bytesOf all]; rfl
    have hl : opLen (copyT n ++ y) 0 = 3 := by simp [opLen, b0]
    have hok : opOk b (copyT n ++ y) 0 = true := by
      unfold opOk opThere opFits
      rw [hl, b0, Nat.zero_add, Nat.zero_add, b1, b2, hz2]
      simp [hb]
    have hg : opGives b (copyT n ++ y) 0 = mk n (bz b) := by
      have hc : opCount (copyT n ++ y) 0 = n := by simp [opCount, b0, b2]
      unfold opGives
      rw [hc]
      refine mk_congr fun j hj => ?_
      unfold opByte
      rw [b0, if_pos rfl, Nat.zero_add, b1, Nat.zero_add]
    rw [goFrom_ok (by omega) hok, hg, hl, hz, nil_append]
theorem diff_go (b t : ByteArray) (ht : t.size ≤ 96) : goFrom b (diffT b t) 0 ⟨#[]⟩ = some t := by
  unfold diffT
  split
  · have h := alk_le b t
    unfold shortT
    rw [copy_go b _ (alk b t) (by omega) (by omega), give_go _ _ _ _ (by rw [restT_size]; omega)]
    congr 1
    refine bz_ext ?_ fun j hj => ?_
    · rw [ByteArray.size_append, mk_size, restT_size]; omega
    · rw [ByteArray.size_append, mk_size, restT_size] at hj
      rw [bz_append, mk_size]
      split
      · rename_i hlt
        rw [bz_mk (fun _ _ => bz_lt _ _) hlt]
        exact alk_eq b t j hlt
      · unfold restT
        rw [bz_mk (fun _ _ => bz_lt _ _) (by omega)]
        congr 1
        omega
  · have h := give_go b ⟨#[]⟩ t ⟨#[]⟩ (by omega)
    rw [nil_append, nil_append] at h
    exact h
end Go.Proofs.YtjfmiomopfjecaaGreat.M

/- The two patches of a change. -/
namespace Go.Proofs.YtjfmiomopfjecaaGreat
open Go.RowKit Go.Lib

/-- a patch that holds the bytes themselves -/
def ownP (s : ByteArray) : ByteArray := M.bytesOf [1, s.size] ++ s
theorem ownP_go (b s : ByteArray) (hs : s.size ≤ 255) : M.goFrom b (ownP s) 0 ⟨#[]⟩ = some s := by
  unfold ownP
  have hz : (M.bytesOf [1, s.size] ++ s).size = 2 + s.size := by rw [ByteArray.size_append]; rfl
  have all : M.AllB [1, s.size] := by intro y hy; simp at hy; omega
  have e2 : (M.bytesOf [1, s.size]).size = 2 := rfl
  have b0 : M.bz (M.bytesOf [1, s.size] ++ s) 0 = 1 := by rw [M.bz_append, if_pos (by rw [e2]; omega), M.bz_bytesOf all]; rfl
  have b1 : M.bz (M.bytesOf [1, s.size] ++ s) 1 = s.size := by rw [M.bz_append, if_pos (by rw [e2]; omega), M.bz_bytesOf all]; rfl
  have b2 : ∀ j, M.bz (M.bytesOf [1, s.size] ++ s) (2 + j) = M.bz s j := by
    intro j
    rw [M.bz_append, if_neg (by rw [e2]; omega), e2]
    congr 1
    omega
  have hl : M.opLen (M.bytesOf [1, s.size] ++ s) 0 = 2 + s.size := by simp [M.opLen, b0, b1]
  have hok : M.opOk b (M.bytesOf [1, s.size] ++ s) 0 = true := by
    unfold M.opOk M.opThere M.opFits
    rw [hl, b0, hz]
    simp
  have hg : M.opGives b (M.bytesOf [1, s.size] ++ s) 0 = s := by
    have hc : M.opCount (M.bytesOf [1, s.size] ++ s) 0 = s.size := by simp [M.opCount, b0, b1]
    unfold M.opGives
    rw [hc]
    refine Eq.trans (M.mk_congr fun j hj => ?_) (M.self_mk s).symm
    unfold M.opByte
    rw [b0, if_neg (by omega), if_pos rfl, Nat.zero_add, b2]
  rw [M.goFrom_ok (by omega) hok, hg, hl, M.goFrom_end (by omega), M.nil_append]
theorem ownP_res (b s : ByteArray) (hs : s.size ≤ 255) : M.patchRes b (ownP s) s.size = some s := res_some (ownP_go b s hs) rfl
theorem ownP_size (s : ByteArray) : (ownP s).size = 2 + s.size := by unfold ownP; rw [ByteArray.size_append]; rfl
theorem diffP_res (b t : ByteArray) (ht : t.size ≤ 96) : M.patchRes b (M.diffT b t) t.size = some t := res_some (M.diff_go b t ht) rfl
theorem diffP_least (b t : ByteArray) (ht : t.size ≤ 96) (h1 : 1 ≤ t.size) : 1 ≤ (M.diffT b t).size := by
  refine Nat.pos_of_ne_zero fun h => ?_
  have hg := M.diff_go b t ht
  rw [M.goFrom_end (by omega)] at hg
  have := Option.some.inj hg
  rw [← this] at h1
  exact absurd h1 (by decide)
end Go.Proofs.YtjfmiomopfjecaaGreat

/- A run begins. -/
namespace Go.Proofs.YtjfmiomopfjecaaGreat
open Go.RowKit Go.Lib

set_option maxRecDepth 10000 in
set_option maxHeartbeats 1000000 in
theorem begin_any {c : Chg} {j : M.Job} {ex inp : ByteArray} (W : World) (hj : M.JobOk j) (hk : j.key.size ≤ 16) (hin : inp.size ≤ maxLen)
    (hw : ∀ X : World, Calls Tryz.prog 24 #[chgV c] X fun e w' => e = .returned (.tuple #[jobV j ex, .bool true]) ∧ Below X.heap.size X w') :
    Calls Tryz.prog 7 #[chgV c, .string inp] W fun e w' => Begun W j ex inp e w' := by
  have hbase : j.base ≤ 65535 := by have := hj.less; have := hj.top; omega
  have HST := hide (M.st_new hj)
  have HN := hide (fun X : World => slotsNew_ok j.key j.old j.base X hk hj.old hbase)
  have HJ := hide hj
  have HIN := hide hin
  have HK := hide hk
  have HW := hide hw
  have hv : M.verP j 0 false = j.base := by simp [M.verP]
  clear hj hk hin hw hbase
  go_enter Tryz.func7, Tryz.ntmps7
  go_wp2_with fail
  refine (unhide HW _).mono ?_
  rintro e w1 ⟨rfl, hb1⟩
  obtain ⟨k1, hs1, hb⟩ := blk1 hb1
  have HB1 := hide hb
  clear hb1 hb HW k1
  go_wp2_with fail
  refine (unhide HN _).mono ?_
  rintro e w2 ⟨b, rfl, hgb, hdev, hb2⟩
  obtain ⟨kj, kr, hs2, hbb⟩ := blk2 hb2
  have hgb' : w1.heap.size + 2 ≤ b := by simp at hgb; omega
  have hblt := hdev.lt
  have HR : Hid (RunRel (w2.setCell ⟨w1.heap.size + 1, 0, none⟩ (.pointer (some ⟨b, 0, none⟩))) (w1.heap.size + 1) b j ex inp (M.newD j.key j.old j.base)) :=
    ⟨setCell_in kr 0 _, ⟨0, 1, 0, set_block hdev (by omega), fun _ => ⟨rfl, rfl, rfl⟩⟩, by omega, unhide HK, HST.out.inv, HST.out.tz⟩
  have HB2 := hide ((unhide HB1).trans (hbb.mono (by omega)))
  obtain ⟨hxj, hfj⟩ := block_facts kj
  obtain ⟨hxr, hfr⟩ := block_facts kr
  clear hb2 kj kr hgb hdev hbb HN HK
  have n1 : ¬ w1.heap.size = w1.heap.size + 1 := by omega
  have HSV := hide (serves_st (unhide HJ) (unhide HR) (unhide HST) (unhide HIN))
  rw [hv] at HSV
  go_wp2_with fail
  refine (unhide HSV).mono ?_
  rintro e w3 ⟨rfl, hr3, ho3⟩
  have HR3 := hide hr3
  have HB3 := hide (((unhide HB2).setCell (p := ⟨w1.heap.size + 1, 0, none⟩) (by show W.heap.size ≤ w1.heap.size + 1; omega) (.pointer (some ⟨b, 0, none⟩))).trans (ho3.below (B := W.heap.size) (by simp [World.setCell]; omega) fun q hq => by rw [hq]; omega))
  clear hr3 ho3 HSV HR HB2 hxj hfj hxr hfr
  go_wp2
  go_ret
  exact ⟨w1.heap.size + 1, b, M.newD j.key j.old j.base, rfl, unhide HR3, unhide HST, unhide HB3, by omega, by omega⟩
end Go.Proofs.YtjfmiomopfjecaaGreat

/- The document's answer: slotsref.first, slotsref.Patch. -/
namespace Go.Proofs.YtjfmiomopfjecaaGreat
open Go.RowKit Go.Lib

def firstYes (b p : ByteArray) : Value := .tuple #[.string (M.opGives b p 0), .string (M.suf p (M.opLen p 0)), .bool true]
def firstNo : Value := .tuple #[.string ⟨#[]⟩, .string ⟨#[]⟩, .bool false]
theorem refNumber_nat (s : ByteArray) (i : Nat) (w : World) (hs : s.size ≤ maxLen) :
    Calls Tryz.prog 78 #[.string s, .int .i64 i] w fun e w' => e = .returned (.int .i64 (refNum s i)) ∧ w = w' := by
  have h := refNumber_any s (i : Int) w hs (by omega)
  rw [Int.toNat_natCast] at h
  exact h
theorem taken_yes_at (s : ByteArray) (k c : Int) (a n : Nat) (w : World) (hs : s.size ≤ 2000000) (h : a + n ≤ s.size) (hk : k = a) (hc : c = n) :
    Calls Tryz.prog 189 #[.string s, .int .i64 k, .int .i64 c] w fun e w' => e = .returned (.tuple #[.string (M.mk n fun j => M.bz s (a + j)), .bool true]) ∧ w = w' := by
  subst hk hc
  exact taken_yes s a n w hs h
theorem ret_first {a b c d : ByteArray} (h1 : a = b) (h2 : c = d) : Ending.returned (.tuple #[.string a, .string c, .bool true]) = .returned (.tuple #[.string b, .string d, .bool true]) := by rw [h1, h2]

theorem below_drewN' {n : Nat} {w w' : World} (h : Below n w w') (k : Nat) : Below n w (w'.drewN k) := by
  induction k with
  | zero => exact h
  | succ k ih => exact ih.drew
theorem text_cell (W : World) (g y : Nat) (hy : y < 256) (hc : W.cell? ⟨g, 0, none⟩ = some (.int .u8 (y : Int))) :
    (convert 103 9 (.slice (some ⟨g, 0, none⟩) 1 1)).run Tryz.prog W = .ok (.string (M.bytesOf [y])) W := by
  have hl : (loadCells ⟨g, 0, none⟩ 1).run Tryz.prog W = .ok ([(y : Int)].map (Value.int .u8)).toArray W := by
    refine run_loadCells_list (P := Tryz.prog) (w := W) ⟨g, 0, none⟩ [.int .u8 (y : Int)] ?_
    intro j v hj
    match j, hj with
    | 0, hj => simp at hj; subst hj; rw [add_at]; exact hc
  rw [run_convert_bytes_string _ 103 9 5 _ _ _ Tryz.underlying103 Tryz.underlying5 Tryz.underlying9, run_bytesToString _ _ _ _ _ hl]
  have e : ((y : Int)).toNat = y := by omega
  simp [M.bytesOf, e, ByteArray.push]
theorem extract_one (p : ByteArray) (a : Nat) (h : a + 1 ≤ p.size) : p.extract a (a + 1) = M.bytesOf [M.bz p a] := by rw [M.extract_mk p a 1 h]; rfl

theorem first_zero (b p : ByteArray) (w : World) (hp : p.size ≤ 2000000) (hb : b.size ≤ 2000000) (hp0 : 0 < p.size) (h0 : M.bz p 0 = 0) (hok : M.opOk b p 0 = true) :
    Calls Tryz.prog 184 #[.string b, .string p] w fun e w' => e = .returned (firstYes b p) ∧ Below w.heap.size w w' := by
  have hpm : p.size ≤ maxLen := by unfold maxLen; omega
  have hl : M.opLen p 0 = 3 := by simp [M.opLen, h0]
  have hle := M.opOk_le hok
  rw [hl] at hle
  have hf : M.bz p 1 + M.bz p 2 ≤ b.size := by
    simp only [M.opOk, M.opFits, h0, Bool.and_eq_true, decide_true, Bool.true_or, Bool.not_true, Bool.false_or, decide_eq_true_eq] at hok
    exact hok.2
  have HG : Hid ((M.mk (M.bz p 2) fun j => M.bz b (M.bz p 1 + j)) = M.opGives b p 0) := by
    show _ = M.mk (M.opCount p 0) (M.opByte b p 0)
    have e2 : M.opCount p 0 = M.bz p 2 := by simp [M.opCount, h0]
    rw [e2]
    exact M.mk_congr fun j _ => by simp [M.opByte, h0]
  have HS : Hid (p.extract (3) p.size = M.suf p (M.opLen p 0)) := by rw [hl]; rfl
  have b1 := M.bz_lt p 1
  have b2 := M.bz_lt p 2
  have n0 := refNum_in (s := p) (i := 0) (by omega)
  have n1 := refNum_in (s := p) (i := 1) (by omega)
  have n2 := refNum_in (s := p) (i := 2) (by omega)
  clear hok
  go_enter Tryz.func184, Tryz.ntmps184
  go_wp2_with fail
  refine (refNumber_nat p 1 _ hpm).mono ?_
  rintro e w' ⟨rfl, rfl⟩
  rw [n1]
  go_wp2_with fail
  refine (refNumber_nat p 2 _ hpm).mono ?_
  rintro e w' ⟨rfl, rfl⟩
  rw [n2]
  go_wp2_with fail
  refine (refNumber_nat p 0 _ hpm).mono ?_
  rintro e w' ⟨rfl, rfl⟩
  rw [n0, h0]
  clear n0 n1 n2 h0 hl
  generalize M.bz p 1 = x at *
  generalize M.bz p 2 = y at *
  go_wp2_with fail
  refine (taken_yes b x y _ hb hf).mono ?_
  rintro e w' ⟨rfl, rfl⟩
  generalize (M.mk y fun j => M.bz b (x + j)) = t at *
  have hle' : (3 : Int) ≤ (p.size : Int) := by omega
  go_wp2_with fail
  go_quiet (fail)
  go_wp2
  refine bodyPost_ret (v := .tuple #[.string _, .string _, .bool true]) (by simp [results, Tryz.results184, go_sem]; try rfl) rfl ⟨ret_first HG.out HS.out, below_drewN' (Below.refl _ _) _⟩
theorem first_one (b p : ByteArray) (w : World) (hp : p.size ≤ 2000000) (_hb : b.size ≤ 2000000) (hp0 : 0 < p.size) (h0 : M.bz p 0 = 1) (hok : M.opOk b p 0 = true) :
    Calls Tryz.prog 184 #[.string b, .string p] w fun e w' => e = .returned (firstYes b p) ∧ Below w.heap.size w w' := by
  have hpm : p.size ≤ maxLen := by unfold maxLen; omega
  have hl : M.opLen p 0 = 2 + M.bz p 1 := by simp [M.opLen, h0]
  have hle := M.opOk_le hok
  rw [hl] at hle
  have HG : Hid ((M.mk (M.bz p 1) fun j => M.bz p (2 + j)) = M.opGives b p 0) := by
    show _ = M.mk (M.opCount p 0) (M.opByte b p 0)
    have e2 : M.opCount p 0 = M.bz p 1 := by simp [M.opCount, h0]
    rw [e2]
    exact M.mk_congr fun j _ => by simp [M.opByte, h0]
  have HS : Hid (p.extract (2 + M.bz p 1) p.size = M.suf p (M.opLen p 0)) := by rw [hl]; rfl
  have b1 := M.bz_lt p 1
  have b2 := M.bz_lt p 2
  have n0 := refNum_in (s := p) (i := 0) (by omega)
  have n1 := refNum_in (s := p) (i := 1) (by omega)
  have r2 := refNum_bd p 2
  clear hok
  go_enter Tryz.func184, Tryz.ntmps184
  go_wp2_with fail
  refine (refNumber_nat p 1 _ hpm).mono ?_
  rintro e w' ⟨rfl, rfl⟩
  rw [n1]
  go_wp2_with fail
  refine (refNumber_nat p 2 _ hpm).mono ?_
  rintro e w' ⟨rfl, rfl⟩
  generalize refNum p 2 = y at *
  go_wp2_with fail
  refine (refNumber_nat p 0 _ hpm).mono ?_
  rintro e w' ⟨rfl, rfl⟩
  rw [n0, h0]
  clear n0 n1 h0 hl
  generalize M.bz p 1 = x at *
  go_wp2_with fail
  refine (taken_yes_at p _ _ 2 x _ hp (by omega) rfl rfl).mono ?_
  rintro e w' ⟨rfl, rfl⟩
  generalize (M.mk x fun j => M.bz p (2 + j)) = t at *
  have hle' : (2 : Int) + (x : Int) ≤ (p.size : Int) := by omega
  have hw1 : IntKind.i64.wrap ((2 : Int) + (x : Int)) = (2 : Int) + (x : Int) := IntWalk.i64_in _ ⟨by omega, by omega⟩
  have hn1 : ((2 : Int) + (x : Int)).toNat = 2 + x := by omega
  have hn2 : (0 : Int) ≤ (2 : Int) + (x : Int) := by omega
  go_wp2_with fail
  go_quiet (fail)
  go_wp2
  refine bodyPost_ret (v := .tuple #[.string _, .string _, .bool true]) (by simp [results, Tryz.results184, go_sem]; try rfl) rfl ⟨ret_first HG.out HS.out, below_drewN' (Below.refl _ _) _⟩
theorem first_two (b p : ByteArray) (w : World) (hp : p.size ≤ 2000000) (_hb : b.size ≤ 2000000) (hp0 : 0 < p.size) (h0 : M.bz p 0 = 2) (hok : M.opOk b p 0 = true) :
    Calls Tryz.prog 184 #[.string b, .string p] w fun e w' => e = .returned (firstYes b p) ∧ Below w.heap.size w w' := by
  have hpm : p.size ≤ maxLen := by unfold maxLen; omega
  have hl : M.opLen p 0 = 3 := by simp [M.opLen, h0]
  have hle := M.opOk_le hok
  rw [hl] at hle
  have HG : Hid ((M.mk (M.bz p 1) fun _ => M.bz p 2) = M.opGives b p 0) := by
    show _ = M.mk (M.opCount p 0) (M.opByte b p 0)
    have e2 : M.opCount p 0 = M.bz p 1 := by simp [M.opCount, h0]
    rw [e2]
    exact M.mk_congr fun j _ => by simp [M.opByte, h0]
  have HS : Hid (p.extract (3) p.size = M.suf p (M.opLen p 0)) := by rw [hl]; rfl
  have b1 := M.bz_lt p 1
  have b2 := M.bz_lt p 2
  have n0 := refNum_in (s := p) (i := 0) (by omega)
  have n1 := refNum_in (s := p) (i := 1) (by omega)
  have n2 := refNum_in (s := p) (i := 2) (by omega)
  clear hok
  go_enter Tryz.func184, Tryz.ntmps184
  go_wp2_with fail
  refine (refNumber_nat p 1 _ hpm).mono ?_
  rintro e w' ⟨rfl, rfl⟩
  rw [n1]
  go_wp2_with fail
  refine (refNumber_nat p 2 _ hpm).mono ?_
  rintro e w' ⟨rfl, rfl⟩
  rw [n2]
  go_wp2_with fail
  refine (refNumber_nat p 0 _ hpm).mono ?_
  rintro e w' ⟨rfl, rfl⟩
  rw [n0, h0]
  clear n0 n1 n2 h0 hl
  generalize M.bz p 1 = x at *
  have HX := hide (extract_one p 2 (by omega))
  have HX1 : Hid ((p.extract 2 3).size = 1) := by rw [ByteArray.size_extract]; show _ = _; omega
  have HST := hide (fun k => M.mk_succ k fun _ => M.bz p 2)
  have hle' : (3 : Int) ≤ (p.size : Int) := by omega
  go_wp2_with fail
  go_loopw [13, 14] (fun v i wr => ∃ (k : Nat) (t : ByteArray), k ≤ x ∧ i = .int .i64 k ∧ v = .string t ∧ Hid (t = M.mk k fun _ => M.bz p 2) ∧ t.size ≤ k ∧ wr = w) (fun _ i _ => x - (intOf i).toNat)
  case atStart => exact ⟨0, ⟨#[]⟩, by omega, rfl, rfl, rfl, by show 0 ≤ _; omega, rfl⟩
  case round =>
    obtain ⟨k, t, hk, rfl, rfl, ht, htz, rfl⟩ := hrel
    by_cases hlt : k < x
    · have hx1 : (p.extract 2 3).size ≤ 1 := by rw [HX1.out]; exact Nat.le_refl _
      have HE : Hid (t ++ p.extract 2 3 = M.mk (k + 1) fun _ => M.bz p 2) := by rw [HST.out k, ← ht.out, HX.out]; rfl
      have HZ : Hid ((t ++ p.extract 2 3).size ≤ k + 1) := by rw [HE.out, M.mk_size]; exact Nat.le_refl _
      go_wp2
      go_roundw
      case rel => exact ⟨k + 1, t ++ p.extract 2 3, by omega, by go_num, rfl, HE, unhide HZ, by first | rfl | trivial⟩
      case measure => simp [intOf]; omega
    · have hkx : k = x := by omega
      subst hkx
      go_wp2_with fail
      go_quiet (fail)
      go_wp2
      refine bodyPost_ret (v := .tuple #[.string _, .string _, .bool true]) (by simp [results, Tryz.results184, go_sem]; try rfl) rfl ⟨ret_first (by rw [ht.out]; exact HG.out) HS.out, below_drewN' (Below.refl _ _) _⟩
set_option maxRecDepth 10000 in
theorem first_three (b p : ByteArray) (w : World) (hp : p.size ≤ 2000000) (hb : b.size ≤ 2000000) (hp0 : 0 < p.size) (h0 : M.bz p 0 = 3) (hok : M.opOk b p 0 = true) :
    Calls Tryz.prog 184 #[.string b, .string p] w fun e w' => e = .returned (firstYes b p) ∧ Below w.heap.size w w' := by
  have hpm : p.size ≤ maxLen := by unfold maxLen; omega
  have hl : M.opLen p 0 = 3 + M.bz p 2 := by simp [M.opLen, h0]
  have hle := M.opOk_le hok
  rw [hl] at hle
  have hf : M.bz p 1 + M.bz p 2 ≤ b.size := by
    simp only [M.opOk, M.opFits, h0, Bool.and_eq_true, decide_true, Bool.or_true, Bool.not_true, Bool.false_or, decide_eq_true_eq] at hok
    exact hok.2
  have HG : Hid ((M.mk (M.bz p 2) fun j => (M.bz (M.mk (M.bz p 2) fun j => M.bz b (M.bz p 1 + j)) j + M.bz (M.mk (M.bz p 2) fun j => M.bz p (3 + j)) j) % 256) = M.opGives b p 0) := by
    show _ = M.mk (M.opCount p 0) (M.opByte b p 0)
    have e2 : M.opCount p 0 = M.bz p 2 := by simp [M.opCount, h0]
    rw [e2]
    refine M.mk_congr fun j hj => ?_
    rw [M.bz_mk (fun _ _ => M.bz_lt _ _) hj, M.bz_mk (fun _ _ => M.bz_lt _ _) hj]
    simp [M.opByte, h0]
  have HS : Hid (p.extract (3 + M.bz p 2) p.size = M.suf p (M.opLen p 0)) := by rw [hl]; rfl
  have b1 := M.bz_lt p 1
  have b2 := M.bz_lt p 2
  have n0 := refNum_in (s := p) (i := 0) (by omega)
  have n1 := refNum_in (s := p) (i := 1) (by omega)
  have n2 := refNum_in (s := p) (i := 2) (by omega)
  clear hok
  go_enter Tryz.func184, Tryz.ntmps184
  go_wp2_with fail
  refine (refNumber_nat p 1 _ hpm).mono ?_
  rintro e w' ⟨rfl, rfl⟩
  rw [n1]
  go_wp2_with fail
  refine (refNumber_nat p 2 _ hpm).mono ?_
  rintro e w' ⟨rfl, rfl⟩
  rw [n2]
  go_wp2_with fail
  refine (refNumber_nat p 0 _ hpm).mono ?_
  rintro e w' ⟨rfl, rfl⟩
  rw [n0, h0]
  clear n0 n1 n2 h0 hl
  generalize M.bz p 1 = x at *
  generalize M.bz p 2 = y at *
  have Z1 := hide (M.mk_size y fun j => M.bz p (3 + j))
  have Z2 := hide (M.mk_size y fun j => M.bz b (x + j))
  go_wp2_with fail
  refine (taken_yes b x y _ hb hf).mono ?_
  rintro e w' ⟨rfl, rfl⟩
  go_wp2_with fail
  refine (taken_yes_at p _ _ 3 y _ hp (by omega) rfl rfl).mono ?_
  rintro e w' ⟨rfl, rfl⟩
  generalize (M.mk y fun j => M.bz b (x + j)) = t at *
  generalize (M.mk y fun j => M.bz p (3 + j)) = u at *
  have z1 : y ≤ t.size := by rw [Z2.out]; exact Nat.le_refl _
  have z2 : y ≤ u.size := by rw [Z1.out]; exact Nat.le_refl _
  have hle' : (3 : Int) + (y : Int) ≤ (p.size : Int) := by omega
  have hw1 : IntKind.i64.wrap ((3 : Int) + (y : Int)) = (3 : Int) + (y : Int) := IntWalk.i64_in _ ⟨by omega, by omega⟩
  have hn1 : ((3 : Int) + (y : Int)).toNat = 3 + y := by omega
  have hn2 : (0 : Int) ≤ (3 : Int) + (y : Int) := by omega
  go_wp2_with fail
  go_loopw [19, 20] (fun v i wr => ∃ (k : Nat) (o : ByteArray), k ≤ y ∧ i = .int .i64 k ∧ v = .string o ∧ Hid (o = M.mk k fun j => (M.bz t j + M.bz u j) % 256) ∧ o.size ≤ k ∧ Below w.heap.size w wr) (fun _ i _ => y - (intOf i).toNat)
  case atStart => exact ⟨0, ⟨#[]⟩, by omega, rfl, rfl, rfl, by show 0 ≤ _; omega, Below.refl _ _⟩
  case round =>
    obtain ⟨k, o, hk, rfl, rfl, ho, hoz, hbel⟩ := hrel
    have hsz := hbel.size
    have HB := hide hbel
    clear hbel
    by_cases hlt : k < y
    · have p0 : k < t.size := by omega
      have p1 : k < u.size := by omega
      have HE : Hid (o ++ M.bytesOf [((t[k]'p0).toNat + (u[k]'p1).toNat) % 256] = M.mk (k + 1) fun j => (M.bz t j + M.bz u j) % 256) := by
        rw [M.mk_succ, ← ho.out, M.bz_at t k p0, M.bz_at u k p1]; rfl
      have HZ : Hid ((o ++ M.bytesOf [((t[k]'p0).toNat + (u[k]'p1).toNat) % 256]).size ≤ k + 1) := by rw [HE.out, M.mk_size]; exact Nat.le_refl _
      have b3 : (t[k]'p0).toNat < 256 := UInt8.toNat_lt _
      have b4 : (u[k]'p1).toNat < 256 := UInt8.toNat_lt _
      have i0 : (k : Int) < (t.size : Int) := by omega
      have i1 : (k : Int) < (u.size : Int) := by omega
      have w0 : IntKind.i64.wrap ((t[k]'p0).toNat : Int) = ((t[k]'p0).toNat : Int) := IntWalk.i64_in _ ⟨by omega, by omega⟩
      have w1 : IntKind.i64.wrap ((u[k]'p1).toNat : Int) = ((u[k]'p1).toNat : Int) := IntWalk.i64_in _ ⟨by omega, by omega⟩
      have w2 : IntKind.i64.wrap (((t[k]'p0).toNat : Int) + ((u[k]'p1).toNat : Int)) = ((t[k]'p0).toNat : Int) + ((u[k]'p1).toNat : Int) := IntWalk.i64_in _ ⟨by omega, by omega⟩
      have htm : (((t[k]'p0).toNat : Int) + ((u[k]'p1).toNat : Int)).tmod 256 = (((((t[k]'p0).toNat + (u[k]'p1).toNat) % 256 : Nat)) : Int) := by rw [Int.tmod_eq_emod_of_nonneg (by omega)]; omega
      have hlt2 : ((t[k]'p0).toNat + (u[k]'p1).toNat) % 256 < 256 := Nat.mod_lt _ (by omega)
      obtain ⟨r, hr⟩ : ∃ r, r = ((t[k]'p0).toNat + (u[k]'p1).toNat) % 256 := ⟨_, rfl⟩
      rw [← hr] at htm hlt2 HE HZ
      clear hr
      have hw8 : IntKind.u8.wrap (r : Int) = (r : Int) := IntWalk.u8_in _ ⟨by omega, by omega⟩
      have hcv := text_cell ((wr.alloc (.cells #[.int .u8 (r : Int)] 5)).drew) wr.heap.size r hlt2 (by simp)
      have hTz : (M.bytesOf [r]).size ≤ 1 := Nat.le_refl _
      generalize M.bytesOf [r] = T at *
      have hpl : ¬ 9223372036854775807 < o.size + T.size := by omega
      have hpl2 : ¬ (9223372036854775807 : Int) < (o.size : Int) + (T.size : Int) := by omega
      go_wp2_with fail
      go_region
      all_goals
        have HB1 : Hid (Below w.heap.size w ((wr.alloc (.cells #[.int .u8 (r : Int)] 5)).drew)) := ((unhide HB).alloc hsz _).drew
        go_wp2
        go_roundw
        case rel => exact ⟨k + 1, o ++ T, by omega, by go_num, rfl, HE, unhide HZ, unhide HB1⟩
        case measure => simp [intOf]; omega
    · have hkx : k = y := by omega
      subst hkx
      go_wp2_with fail
      go_quiet (fail)
      go_wp2
      refine bodyPost_ret (v := .tuple #[.string _, .string _, .bool true]) (by simp [results, Tryz.results184, go_sem]; try rfl) rfl ⟨ret_first (by rw [ho.out]; exact HG.out) HS.out, below_drewN' (unhide HB) _⟩
end Go.Proofs.YtjfmiomopfjecaaGreat

/- The document's answer where a step is none, and slotsref.Patch. -/
namespace Go.Proofs.YtjfmiomopfjecaaGreat
open Go.RowKit Go.Lib

theorem notOk {b p : ByteArray} (h : M.opOk b p 0 = false) (h3 : M.bz p 0 ≤ 3) : p.size < M.opLen p 0 ∨ ((M.bz p 0 = 0 ∨ M.bz p 0 = 3) ∧ b.size < M.bz p 1 + M.bz p 2) := by
  unfold M.opOk M.opThere M.opFits at h
  rw [decide_eq_true h3, Bool.true_and] at h
  simp only [Nat.zero_add, Bool.and_eq_false_iff, decide_eq_false_iff_not, Bool.or_eq_false_iff, Bool.not_eq_false', Bool.or_eq_true, decide_eq_true_eq] at h
  omega
theorem refNum_out {s : ByteArray} {i : Nat} (h : s.size ≤ i) : refNum s i = -1 := if_neg (by omega)
theorem firstNo_zero (b p : ByteArray) (w : World) (hp : p.size ≤ 2000000) (hb : b.size ≤ 2000000) (hp0 : 0 < p.size) (h0 : M.bz p 0 = 0) (hok : M.opOk b p 0 = false) :
    Calls Tryz.prog 184 #[.string b, .string p] w fun e w' => e = .returned firstNo ∧ Below w.heap.size w w' := by
  have hpm : p.size ≤ maxLen := by unfold maxLen; omega
  have hl : M.opLen p 0 = 3 := by simp [M.opLen, h0]
  have hno := notOk hok (by omega)
  rw [hl] at hno
  have HC : Hid (refNum p 1 < 0 ∨ refNum p 2 < 0 ∨ (b.size : Int) < refNum p 1 + refNum p 2) := by
    show _ ∨ _ ∨ _
    by_cases h3 : p.size < 3
    · rw [refNum_out (s := p) (i := 2) (by omega)]; omega
    · rw [refNum_in (s := p) (i := 1) (by omega), refNum_in (s := p) (i := 2) (by omega)]; omega
  have n0 := refNum_in (s := p) (i := 0) (by omega)
  obtain ⟨r1, r1'⟩ := refNum_bd p 1
  obtain ⟨r2, r2'⟩ := refNum_bd p 2
  clear hok hno hl
  go_enter Tryz.func184, Tryz.ntmps184
  go_wp2_with fail
  refine (refNumber_nat p 1 _ hpm).mono ?_
  rintro e w' ⟨rfl, rfl⟩
  go_wp2_with fail
  refine (refNumber_nat p 2 _ hpm).mono ?_
  rintro e w' ⟨rfl, rfl⟩
  go_wp2_with fail
  refine (refNumber_nat p 0 _ hpm).mono ?_
  rintro e w' ⟨rfl, rfl⟩
  rw [n0, h0]
  clear n0 h0
  generalize refNum p 1 = x at *
  generalize refNum p 2 = y at *
  go_wp2_with fail
  refine (taken_no b x y _ hb r1 (by omega) r2 (by omega) (unhide HC)).mono ?_
  rintro e w' ⟨rfl, rfl⟩
  go_wp2
  exact bodyPost_ret (v := firstNo) (by simp [results, Tryz.results184, go_sem, firstNo]) rfl ⟨rfl, Below.refl _ _⟩
theorem firstNo_one (b p : ByteArray) (w : World) (hp : p.size ≤ 2000000) (hp0 : 0 < p.size) (h0 : M.bz p 0 = 1) (hok : M.opOk b p 0 = false) :
    Calls Tryz.prog 184 #[.string b, .string p] w fun e w' => e = .returned firstNo ∧ Below w.heap.size w w' := by
  have hpm : p.size ≤ maxLen := by unfold maxLen; omega
  have hl : M.opLen p 0 = 2 + M.bz p 1 := by simp [M.opLen, h0]
  have hno := notOk hok (by omega)
  rw [hl] at hno
  have HC : Hid ((2 : Int) < 0 ∨ refNum p 1 < 0 ∨ (p.size : Int) < 2 + refNum p 1) := by
    show _ ∨ _ ∨ _
    by_cases h3 : p.size < 2
    · rw [refNum_out (s := p) (i := 1) (by omega)]; omega
    · rw [refNum_in (s := p) (i := 1) (by omega)]; omega
  have n0 := refNum_in (s := p) (i := 0) (by omega)
  obtain ⟨r1, r1'⟩ := refNum_bd p 1
  obtain ⟨r2, r2'⟩ := refNum_bd p 2
  clear hok hno hl
  go_enter Tryz.func184, Tryz.ntmps184
  go_wp2_with fail
  refine (refNumber_nat p 1 _ hpm).mono ?_
  rintro e w' ⟨rfl, rfl⟩
  go_wp2_with fail
  refine (refNumber_nat p 2 _ hpm).mono ?_
  rintro e w' ⟨rfl, rfl⟩
  go_wp2_with fail
  refine (refNumber_nat p 0 _ hpm).mono ?_
  rintro e w' ⟨rfl, rfl⟩
  rw [n0, h0]
  clear n0 h0
  generalize refNum p 1 = x at *
  generalize refNum p 2 = y at *
  go_wp2_with fail
  refine (taken_no p 2 x _ hp (by omega) (by omega) r1 (by omega) (unhide HC)).mono ?_
  rintro e w' ⟨rfl, rfl⟩
  go_wp2
  exact bodyPost_ret (v := firstNo) (by simp [results, Tryz.results184, go_sem, firstNo]) rfl ⟨rfl, Below.refl _ _⟩
theorem firstNo_two (b p : ByteArray) (w : World) (hp : p.size ≤ 2000000) (hp0 : 0 < p.size) (h0 : M.bz p 0 = 2) (hok : M.opOk b p 0 = false) :
    Calls Tryz.prog 184 #[.string b, .string p] w fun e w' => e = .returned firstNo ∧ Below w.heap.size w w' := by
  have hpm : p.size ≤ maxLen := by unfold maxLen; omega
  have hl : M.opLen p 0 = 3 := by simp [M.opLen, h0]
  have hno := notOk hok (by omega)
  rw [hl] at hno
  have n2 := refNum_out (s := p) (i := 2) (by omega)
  have n0 := refNum_in (s := p) (i := 0) (by omega)
  obtain ⟨r1, r1'⟩ := refNum_bd p 1
  clear hok hno hl
  go_enter Tryz.func184, Tryz.ntmps184
  go_wp2_with fail
  refine (refNumber_nat p 1 _ hpm).mono ?_
  rintro e w' ⟨rfl, rfl⟩
  go_wp2_with fail
  refine (refNumber_nat p 2 _ hpm).mono ?_
  rintro e w' ⟨rfl, rfl⟩
  rw [n2]
  go_wp2_with fail
  refine (refNumber_nat p 0 _ hpm).mono ?_
  rintro e w' ⟨rfl, rfl⟩
  rw [n0, h0]
  clear n0 h0 n2
  generalize refNum p 1 = x at *
  go_wp2
  exact bodyPost_ret (v := firstNo) (by simp [results, Tryz.results184, go_sem, firstNo]) rfl ⟨rfl, Below.refl _ _⟩
theorem firstNo_three (b p : ByteArray) (w : World) (hp : p.size ≤ 2000000) (hb : b.size ≤ 2000000) (hp0 : 0 < p.size) (h0 : M.bz p 0 = 3) (hok : M.opOk b p 0 = false) :
    Calls Tryz.prog 184 #[.string b, .string p] w fun e w' => e = .returned firstNo ∧ Below w.heap.size w w' := by
  have hpm : p.size ≤ maxLen := by unfold maxLen; omega
  have hl : M.opLen p 0 = 3 + M.bz p 2 := by simp [M.opLen, h0]
  have hno := notOk hok (by omega)
  rw [hl] at hno
  have HC : Hid (refNum p 1 < 0 ∨ refNum p 2 < 0 ∨ (b.size : Int) < refNum p 1 + refNum p 2 ∨ (p.size : Int) < 3 + refNum p 2) := by
    show _ ∨ _ ∨ _ ∨ _
    by_cases h3 : p.size < 3
    · rw [refNum_out (s := p) (i := 2) (by omega)]; omega
    · rw [refNum_in (s := p) (i := 1) (by omega), refNum_in (s := p) (i := 2) (by omega)]; omega
  have n0 := refNum_in (s := p) (i := 0) (by omega)
  obtain ⟨r1, r1'⟩ := refNum_bd p 1
  obtain ⟨r2, r2'⟩ := refNum_bd p 2
  clear hok hno hl
  go_enter Tryz.func184, Tryz.ntmps184
  go_wp2_with fail
  refine (refNumber_nat p 1 _ hpm).mono ?_
  rintro e w' ⟨rfl, rfl⟩
  go_wp2_with fail
  refine (refNumber_nat p 2 _ hpm).mono ?_
  rintro e w' ⟨rfl, rfl⟩
  go_wp2_with fail
  refine (refNumber_nat p 0 _ hpm).mono ?_
  rintro e w' ⟨rfl, rfl⟩
  rw [n0, h0]
  clear n0 h0
  generalize refNum p 1 = x at *
  generalize refNum p 2 = y at *
  by_cases hx : x < 0 ∨ y < 0 ∨ (b.size : Int) < x + y
  · go_wp2_with fail
    refine (taken_no b x y _ hb r1 (by omega) r2 (by omega) hx).mono ?_
    rintro e w' ⟨rfl, rfl⟩
    by_cases hy : y < 0 ∨ (p.size : Int) < 3 + y
    · have HY := hide hy
      clear hx hy
      go_wp2_with fail
      refine (taken_no p 3 y _ hp (by omega) (by omega) r2 (by omega) (.inr (unhide HY))).mono ?_
      rintro e w' ⟨rfl, rfl⟩
      go_wp2
      exact bodyPost_ret (v := firstNo) (by simp [results, Tryz.results184, go_sem, firstNo]) rfl ⟨rfl, Below.refl _ _⟩
    · obtain ⟨m, rfl⟩ := Int.eq_ofNat_of_zero_le (show 0 ≤ y by omega)
      have HY : Hid (3 + m ≤ p.size) := by show 3 + m ≤ p.size; omega
      clear hx hy
      go_wp2_with fail
      refine (taken_yes_at p _ _ 3 m _ hp (unhide HY) rfl rfl).mono ?_
      rintro e w' ⟨rfl, rfl⟩
      generalize (M.mk m fun j => M.bz p (3 + j)) = t at *
      go_wp2
      exact bodyPost_ret (v := firstNo) (by simp [results, Tryz.results184, go_sem, firstNo]) rfl ⟨rfl, Below.refl _ _⟩
  · have hc := HC.out
    have hy : (p.size : Int) < 3 + y := by omega
    obtain ⟨k, rfl⟩ := Int.eq_ofNat_of_zero_le (show 0 ≤ x by omega)
    obtain ⟨m, rfl⟩ := Int.eq_ofNat_of_zero_le (show 0 ≤ y by omega)
    have HX : Hid (k + m ≤ b.size) := by show k + m ≤ b.size; omega
    have HY := hide hy
    clear hx hc HC hy
    go_wp2_with fail
    refine (taken_yes b k m _ hb (unhide HX)).mono ?_
    rintro e w' ⟨rfl, rfl⟩
    generalize (M.mk m fun j => M.bz b (k + j)) = t at *
    go_wp2_with fail
    refine (taken_no p 3 m _ hp (by omega) (by omega) r2 (by omega) (.inr (.inr (unhide HY)))).mono ?_
    rintro e w' ⟨rfl, rfl⟩
    go_wp2
    exact bodyPost_ret (v := firstNo) (by simp [results, Tryz.results184, go_sem, firstNo]) rfl ⟨rfl, Below.refl _ _⟩
theorem firstNo_more (b p : ByteArray) (w : World) (hp : p.size ≤ 2000000) (hp0 : 0 < p.size) (h0 : 3 < M.bz p 0) :
    Calls Tryz.prog 184 #[.string b, .string p] w fun e w' => e = .returned firstNo ∧ Below w.heap.size w w' := by
  have hpm : p.size ≤ maxLen := by unfold maxLen; omega
  have n0 := refNum_in (s := p) (i := 0) (by omega)
  have b0 := M.bz_lt p 0
  go_enter Tryz.func184, Tryz.ntmps184
  go_wp2_with fail
  refine (refNumber_nat p 1 _ hpm).mono ?_
  rintro e w' ⟨rfl, rfl⟩
  go_wp2_with fail
  refine (refNumber_nat p 2 _ hpm).mono ?_
  rintro e w' ⟨rfl, rfl⟩
  go_wp2_with fail
  refine (refNumber_nat p 0 _ hpm).mono ?_
  rintro e w' ⟨rfl, rfl⟩
  rw [n0]
  clear n0
  generalize M.bz p 0 = z at *
  have k0 : ((z : Int) == 0) = false := by rw [beq_eq_false_iff_ne]; omega
  have k1 : ((z : Int) == 1) = false := by rw [beq_eq_false_iff_ne]; omega
  have k2 : ((z : Int) == 2) = false := by rw [beq_eq_false_iff_ne]; omega
  have k3 : ((z : Int) == 3) = false := by rw [beq_eq_false_iff_ne]; omega
  generalize refNum p 1 = x at *
  generalize refNum p 2 = y at *
  go_wp2
  exact bodyPost_ret (v := firstNo) (by simp [results, Tryz.results184, go_sem, firstNo]) rfl ⟨rfl, Below.refl _ _⟩
theorem first_yes (b p : ByteArray) (w : World) (hp : p.size ≤ 2000000) (hb : b.size ≤ 2000000) (hp0 : 0 < p.size) (hok : M.opOk b p 0 = true) :
    Calls Tryz.prog 184 #[.string b, .string p] w fun e w' => e = .returned (firstYes b p) ∧ Below w.heap.size w w' := by
  have h3 := M.opOk_what hok
  by_cases h0 : M.bz p 0 = 0
  · exact first_zero b p w hp hb hp0 h0 hok
  by_cases h1 : M.bz p 0 = 1
  · exact first_one b p w hp hb hp0 h1 hok
  by_cases h2 : M.bz p 0 = 2
  · exact first_two b p w hp hb hp0 h2 hok
  exact first_three b p w hp hb hp0 (by omega) hok
theorem first_no (b p : ByteArray) (w : World) (hp : p.size ≤ 2000000) (hb : b.size ≤ 2000000) (hp0 : 0 < p.size) (hok : M.opOk b p 0 = false) :
    Calls Tryz.prog 184 #[.string b, .string p] w fun e w' => e = .returned firstNo ∧ Below w.heap.size w w' := by
  by_cases h0 : M.bz p 0 = 0
  · exact firstNo_zero b p w hp hb hp0 h0 hok
  by_cases h1 : M.bz p 0 = 1
  · exact firstNo_one b p w hp hp0 h1 hok
  by_cases h2 : M.bz p 0 = 2
  · exact firstNo_two b p w hp hp0 h2 hok
  by_cases h3 : M.bz p 0 = 3
  · exact firstNo_three b p w hp hb hp0 h3 hok
  exact firstNo_more b p w hp hp0 (by omega)
end Go.Proofs.YtjfmiomopfjecaaGreat

/- slotsref.Patch, and the law. -/
namespace Go.Proofs.YtjfmiomopfjecaaGreat
open Go.RowKit Go.Lib

theorem text_ne {r : ByteArray} (h : 0 < r.size) : r.toList.isEmpty = false := by
  rw [ByteArray.toList_eq]
  have e : r.data.toList.length = r.size := by rw [Array.length_toList]; rfl
  cases hl : r.data.toList with
  | nil => rw [hl] at e; simp at e; omega
  | cons x l => rfl
theorem text_nil {r : ByteArray} (h : r.size = 0) : r = ⟨#[]⟩ := M.bz_ext (by rw [h]; rfl) (fun j hj => by omega)
set_option maxHeartbeats 400000 in
theorem refPatch_any (b p : ByteArray) (n : Int) (w : World) (hp : p.size ≤ 2000000) (hb : b.size ≤ 2000000) :
    Calls Tryz.prog 173 #[.string b, .string p, .int .i64 n] w fun e w' => e = .returned (.tuple #[.string (M.patchTxt b p n), .int .i64 (M.patchNum b p n)]) ∧ Below w.heap.size w w' := by
  have HS0 := hide (M.suf_zero p)
  go_enter Tryz.func173, Tryz.ntmps173
  go_wp2_with fail
  go_loopw [1, 8] (fun q v wr => ∃ (k : Nat) (o r : ByteArray), k ≤ p.size ∧ q = .string r ∧ v = .string o ∧ Hid (r = M.suf p k) ∧ Hid (M.goFrom b p k o = M.goFrom b p 0 ⟨#[]⟩) ∧ o.size ≤ 255 * k ∧ Below w.heap.size w wr) (fun q _ _ => match q with | .string r => r.size | _ => 0)
  case atStart => exact ⟨0, ⟨#[]⟩, p, by omega, rfl, rfl, HS0.out.symm, rfl, by show 0 ≤ _; omega, Below.refl _ _⟩
  case round =>
    obtain ⟨k, o, r, hk, rfl, rfl, hr, hgo, hz, hbel⟩ := hrel
    have hsz := hbel.size
    have HB := hide hbel
    have HRZ : Hid (r.size = p.size - k) := by rw [hr.out, M.suf_size]; rfl
    clear hbel
    by_cases hlt : k < p.size
    · have h0 : 0 < r.size := by rw [HRZ.out]; omega
      have hne := text_ne h0
      have hrz : r.size ≤ 2000000 := by rw [HRZ.out]; omega
      cases hok : M.opOk b p k
      · have HNO : Hid (M.opOk b r 0 = false) := by rw [hr.out, M.suf_ok b p k hlt]; exact hok
        have HEND := hide (txt_none (res_none (n := n) (hgo.out.symm.trans (M.goFrom_no hlt hok))))
        clear hok
        go_wp2_with fail
        refine (first_no b r _ hrz hb h0 (unhide HNO)).mono ?_
        rintro e w1 ⟨rfl, hb1⟩
        have HB1 := hide ((unhide HB).trans (hb1.mono hsz))
        unfold firstNo
        clear hb1
        go_wp2
        go_ret2
        exact ⟨ret_txt HEND.out, unhide HB1⟩
      · have HYES : Hid (M.opOk b r 0 = true) := by rw [hr.out, M.suf_ok b p k hlt]; exact hok
        have hle := M.opOk_le hok
        have hl2 := M.opLen_two p k
        have hc := M.opCount_le p k
        have HG : Hid (M.opGives b r 0 = M.opGives b p k) := by rw [hr.out, M.suf_gives]; rfl
        have HS : Hid (M.suf r (M.opLen r 0) = M.suf p (k + M.opLen p k)) := by rw [hr.out, M.suf_len, M.suf_suf]; rfl
        have HZ := hide (M.opGives_size b p k)
        have HNEW := hide ((M.goFrom_ok (o := o) hlt hok).symm.trans hgo.out)
        have HSZ := hide (M.suf_size p (k + M.opLen p k))
        clear hok
        go_wp2_with fail
        refine (first_yes b r _ hrz hb h0 (unhide HYES)).mono ?_
        rintro e w1 ⟨rfl, hb1⟩
        have HB1 := hide ((unhide HB).trans (hb1.mono hsz))
        clear hb1 HYES
        unfold firstYes
        rw [HG.out, HS.out]
        clear HG HS
        generalize M.opGives b p k = g at *
        generalize M.opCount p k = c at *
        generalize M.opLen p k = l at *
        have HT : Hid (M.suf p (k + l) = M.suf p (k + l)) := rfl
        have hgz : g.size ≤ 255 := by rw [HZ.out]; exact hc
        have HON : Hid ((o ++ g).size ≤ 255 * (k + l)) := by rw [ByteArray.size_append]; show _ ≤ _; omega
        generalize hS : M.suf p (k + l) = S at *
        have HS2 := hide hS
        clear hS
        go_wp2
        go_roundw
        case rel => exact ⟨k + l, o ++ g, S, by omega, rfl, rfl, HS2.out.symm, HNEW, unhide HON, unhide HB1⟩
        case measure => show S.size < r.size; rw [HSZ.out, HRZ.out]; omega
    · have hkn : k = p.size := by omega
      have e := text_nil (r := r) (by rw [HRZ.out]; omega)
      subst e
      have hG := hgo.out.symm.trans (M.goFrom_end (o := o) (by omega : p.size ≤ k))
      by_cases hn : (o.size : Int) = n
      · have HEND := hide (txt_some (res_some hG hn))
        have hne : ((o.size : Int) != n) = false := by rw [bne_eq_false_iff_eq]; exact hn
        clear hG hn
        go_wp2
        go_ret2
        exact ⟨ret_txt HEND.out, unhide HB⟩
      · have HEND := hide (txt_none (res_size hG hn))
        have hne : ((o.size : Int) != n) = true := by rw [bne_iff_ne]; exact hn
        clear hG hn
        go_wp2
        go_ret2
        exact ⟨ret_txt HEND.out, unhide HB⟩
theorem lawNum_any (n : Int) (w : World) : Calls Tryz.prog 34 #[.int .i64 n] w fun e w' => e = .returned (.int .i64 n) ∧ w = w' := by
  go_enter Tryz.func34, Tryz.ntmps34
  go_wp2
  go_ret
  exact ⟨rfl, rfl⟩
end Go.Proofs.YtjfmiomopfjecaaGreat

/- The program's Diff: delta.alike, copying, giving, Between, slots.Diff. -/
namespace Go.Proofs.YtjfmiomopfjecaaGreat
open Go.RowKit Go.Lib

set_option maxRecDepth 10000 in
theorem alike_any (a b : ByteArray) (w : World) (ha : a.size ≤ 2000000) (_hb : b.size ≤ 2000000) :
    Calls Tryz.prog 98 #[.string a, .string b] w fun e w' => e = .returned (.int .i64 (M.alk a b)) ∧ Below w.heap.size w w' := by
  go_enter Tryz.func98, Tryz.ntmps98
  go_wp2_with fail
  go_loopw [5] (fun i wr => ∃ k : Nat, k ≤ a.size ∧ i = .int .i64 k ∧ Hid (M.alkF a b (a.size - k) k = M.alk a b) ∧ Below w.heap.size w wr) (fun i _ => a.size - (intOf i).toNat)
  case atStart => exact ⟨0, by omega, rfl, rfl, Below.refl _ _⟩
  case round =>
    obtain ⟨k, hk, rfl, hg, hbel⟩ := hrel
    have HB := hide hbel
    clear hbel
    by_cases h1 : k < a.size
    · have i1 : (k : Int) < (a.size : Int) := by omega
      have d1 : decide ((k : Int) < (a.size : Int)) = true := decide_eq_true i1
      have d1' : decide (k < a.size) = true := decide_eq_true h1
      by_cases h2 : k < b.size
      · have i2 : (k : Int) < (b.size : Int) := by omega
        have d2 : decide ((k : Int) < (b.size : Int)) = true := decide_eq_true i2
        have d2' : decide (k < b.size) = true := decide_eq_true h2
        by_cases h3 : M.bz a k = M.bz b k
        · have HN := hide ((M.alkF_go ⟨h1, h2, h3⟩).symm.trans hg.out)
          rw [← M.bz_at a k h1, ← M.bz_at b k h2] at h3
          have e3 : (((a[k]'h1).toNat : Int) == ((b[k]'h2).toNat : Int)) = true := by rw [beq_iff_eq]; omega
          clear h3
          go_wp2_with fail
          go_quiet (fail)
          go_wp2
          go_roundw
          case rel => exact ⟨k + 1, by omega, by go_num, HN, below_drewN' (unhide HB) _⟩
          case measure => simp [intOf]; omega
        · have HN := hide ((M.alkF_stop (f := a.size - k) (fun h => h3 h.2.2)).symm.trans hg.out)
          rw [← M.bz_at a k h1, ← M.bz_at b k h2] at h3
          have e3 : (((a[k]'h1).toNat : Int) == ((b[k]'h2).toNat : Int)) = false := by rw [beq_eq_false_iff_ne]; omega
          clear h3
          go_wp2_with fail
          go_quiet (fail)
          go_wp2
          go_ret
          exact ⟨ret_int (by rw [HN.out]), below_drewN' (unhide HB) _⟩
      · have HN := hide ((M.alkF_stop (f := a.size - k) (fun h => h2 h.2.1)).symm.trans hg.out)
        have d2 : decide ((k : Int) < (b.size : Int)) = false := decide_eq_false (by omega)
        have d2' : decide (k < b.size) = false := decide_eq_false h2
        go_wp2_with fail
        go_quiet (fail)
        go_wp2
        go_ret
        exact ⟨ret_int (by rw [HN.out]), below_drewN' (unhide HB) _⟩
    · have HN := hide ((M.alkF_stop (f := a.size - k) (fun h => h1 h.1)).symm.trans hg.out)
      have d1 : decide ((k : Int) < (a.size : Int)) = false := decide_eq_false (by omega)
      have d1' : decide (k < a.size) = false := decide_eq_false h1
      go_wp2_with fail
      go_quiet (fail)
      go_wp2
      go_ret
      exact ⟨ret_int (by rw [HN.out]), below_drewN' (unhide HB) _⟩

theorem copying_any (n : Nat) (w : World) (hn : n ≤ 255) :
    Calls Tryz.prog 100 #[.int .i64 n] w fun e w' => e = .returned (.string (M.copyT n)) ∧ Below w.heap.size w w' := by
  by_cases h : n = 0
  · have HE := hide (show M.copyT n = ⟨#[]⟩ from if_pos h)
    subst h
    go_enter Tryz.func100, Tryz.ntmps100
    go_wp2
    go_ret
    exact ⟨ret_string HE.out.symm, Below.refl _ _⟩
  · have HE := hide (show M.copyT n = M.bytesOf [0, 0, n] from if_neg h)
    have hr := text_run w [0, 0, (n : Int)] 3 rfl
    simp only [List.map_cons, List.map_nil] at hr
    have h0 : ((n : Int) == 0) = false := by rw [beq_eq_false_iff_ne]; omega
    clear h
    go_enter Tryz.func100, Tryz.ntmps100
    go_wp2
    go_ret
    exact ⟨ret_string (by rw [HE.out]; simp [M.bytesOf]), (Below.refl _ _).alloc (Nat.le_refl _) _⟩
theorem giving_any (s : ByteArray) (w : World) (hs : s.size ≤ 255) :
    Calls Tryz.prog 101 #[.string s] w fun e w' => e = .returned (.string (M.giveT s)) ∧ Below w.heap.size w w' := by
  by_cases h : s.size = 0
  · have HE := hide (show M.giveT s = ⟨#[]⟩ from if_pos h)
    have e := text_nil h
    subst e
    go_enter Tryz.func101, Tryz.ntmps101
    go_wp2
    go_ret
    exact ⟨ret_string HE.out.symm, Below.refl _ _⟩
  · have HE := hide (show M.giveT s = M.bytesOf [1, s.size] ++ s from if_neg h)
    have hne := text_ne (r := s) (by omega)
    have hr := text_run w [1, (s.size : Int)] 2 rfl
    simp only [List.map_cons, List.map_nil] at hr
    have HT : Hid ((⟨#[UInt8.ofNat (1 : Int).toNat, UInt8.ofNat (s.size : Int).toNat]⟩ : ByteArray) = M.bytesOf [1, s.size]) := by
      show _ = _
      simp [M.bytesOf]
    have hTz : (M.bytesOf [1, s.size]).size ≤ 2 := Nat.le_refl _
    rw [show [UInt8.ofNat (1 : Int).toNat, UInt8.ofNat (s.size : Int).toNat].toArray = #[UInt8.ofNat (1 : Int).toNat, UInt8.ofNat (s.size : Int).toNat] from rfl, HT.out] at hr
    clear h HT
    generalize M.bytesOf [1, s.size] = T at *
    go_enter Tryz.func101, Tryz.ntmps101
    go_wp2
    go_ret
    exact ⟨ret_string HE.out.symm, (Below.refl _ _).alloc (Nat.le_refl _) _⟩

theorem between_any (b t : ByteArray) (w : World) (hb : b.size ≤ 96) (ht : t.size ≤ 96) :
    Calls Tryz.prog 63 #[.string b, .string t] w fun e w' => e = .returned (.string (M.diffT b t)) ∧ Below w.heap.size w w' := by
  obtain ⟨l1, l2⟩ := M.alk_le b t
  have HR : Hid ((M.mk (t.size - M.alk b t) fun j => M.bz t (M.alk b t + j)) = M.restT t (M.alk b t)) := rfl
  have HRZ := hide (M.restT_size t (M.alk b t))
  have HS : Hid (M.copyT (M.alk b t) ++ M.giveT (M.restT t (M.alk b t)) = M.shortT b t) := rfl
  have HC := hide (M.copyT_size (M.alk b t))
  have HGz := hide (M.giveT_size (M.restT t (M.alk b t)))
  have HDT : Hid (M.diffT b t = if (M.shortT b t).size < (M.giveT t).size then M.shortT b t else M.giveT t) := rfl
  go_enter Tryz.func63, Tryz.ntmps63
  go_wp2_with fail
  refine (alike_any b t _ (by omega) (by omega)).mono ?_
  rintro e w1 ⟨rfl, hb1⟩
  have HB1 := hide hb1
  have hsz1 := hb1.size
  clear hb1
  generalize M.alk b t = n at *
  go_wp2_with fail
  refine (part_yes_at t _ _ n (t.size - n) _ (by omega) (by omega) rfl (by omega)).mono ?_
  rintro e w' ⟨rfl, rfl⟩
  rw [HR.out]
  clear HR
  generalize M.restT t n = r at *
  have hrz : r.size ≤ 96 := by rw [HRZ.out]; omega
  go_wp2_with fail
  refine (copying_any n _ (by omega)).mono ?_
  rintro e w2 ⟨rfl, hb2⟩
  have HB2 := hide ((unhide HB1).trans (hb2.mono hsz1))
  have hsz2 := hb2.size
  clear hb2
  generalize M.copyT n = c at *
  have hcz : c.size ≤ 3 := by rw [HC.out]; split <;> omega
  go_wp2_with fail
  refine (giving_any r _ (by omega)).mono ?_
  rintro e w3 ⟨rfl, hb3⟩
  have HB3 := hide ((unhide HB2).trans (hb3.mono (by omega)))
  have hsz3 := hb3.size
  clear hb3
  have hgz : (M.giveT r).size ≤ 98 := by rw [HGz.out]; split <;> omega
  clear HGz
  generalize M.giveT r = g at *
  go_wp2_with fail
  refine (giving_any t _ (by omega)).mono ?_
  rintro e w4 ⟨rfl, hb4⟩
  have HB4 := hide ((unhide HB3).trans (hb4.mono (by omega)))
  clear hb4
  rw [HS.out]
  generalize M.shortT b t = S at *
  generalize M.giveT t = G at *
  by_cases hlt : S.size < G.size
  · have HE : Hid (M.diffT b t = S) := by rw [HDT.out, if_pos hlt]; rfl
    go_wp2
    go_ret
    exact ⟨ret_string HE.out.symm, unhide HB4⟩
  · have HE : Hid (M.diffT b t = G) := by rw [HDT.out, if_neg hlt]; rfl
    go_wp2
    go_ret
    exact ⟨ret_string HE.out.symm, unhide HB4⟩
theorem slotsDiff_ok (b t : ByteArray) (w : World) (hb : b.size ≤ 96) (ht : t.size ≤ 96) :
    Calls Tryz.prog 44 #[.string b, .string t] w fun e w' => e = .returned (.tuple #[.string (M.diffT b t), .int .i64 0]) ∧ Below w.heap.size w w' := by
  go_enter Tryz.func44, Tryz.ntmps44
  go_wp2_with fail
  refine (between_any b t _ hb ht).mono ?_
  rintro e w1 ⟨rfl, hb1⟩
  have HB1 := hide hb1
  clear hb1
  go_wp2
  go_ret2
  exact ⟨rfl, unhide HB1⟩
theorem slotsDiff_no (b t : ByteArray) (w : World) (_hb : b.size ≤ maxLen) (_ht : t.size ≤ maxLen) (h : 96 < b.size ∨ 96 < t.size) :
    Calls Tryz.prog 44 #[.string b, .string t] w fun e w' => e = .returned (.tuple #[.string ⟨#[]⟩, .int .i64 4]) ∧ w = w' := by
  unfold maxLen at _hb _ht
  by_cases h1 : 96 < b.size
  · clear h
    go_enter Tryz.func44, Tryz.ntmps44
    go_wp2
    go_ret2
    exact ⟨rfl, rfl⟩
  · have h2 : 96 < t.size := by omega
    clear h
    go_enter Tryz.func44, Tryz.ntmps44
    go_wp2
    go_ret2
    exact ⟨rfl, rfl⟩
end Go.Proofs.YtjfmiomopfjecaaGreat

/- A change, worked out: whatever is given, a job comes of it; and a run begins. -/
namespace Go.Proofs.YtjfmiomopfjecaaGreat
open Go.RowKit Go.Lib

/-- a job as it is worked out -/
structure Made (j : M.Job) (ex : ByteArray) : Prop where
  ok : M.JobOk j
  key : j.key.size ≤ 16
  exok : ExOk ex
  man : j.man = sealedT j ex j.base j.up
theorem Made.size {j : M.Job} {ex : ByteArray} (h : Made j ex) : j.man.size ≤ maxLen := by
  have := M.man_size h.ok.man
  unfold maxLen
  omega
theorem chL_man (K O N P m m' : ByteArray) (b u : Nat) (k : Nat) : chL ⟨K, O, N, b, u, P, m⟩ k = chL ⟨K, O, N, b, u, P, m'⟩ k := by
  induction k with
  | zero => rfl
  | succ k ih =>
    unfold chL
    rw [ih]
    rfl
theorem sealedT_man (K O N P m m' ex : ByteArray) (b u x y : Nat) : sealedT ⟨K, O, N, b, u, P, m⟩ ex x y = sealedT ⟨K, O, N, b, u, P, m'⟩ ex x y := by
  unfold sealedT bodyT
  rw [chL_man K O N P m m' b u]
  rfl
theorem made_op (N1 : ByteArray) : (⟨#[1]⟩ : ByteArray) ++ M.bytesOf [N1.size] ++ N1 = ownP N1 := by
  unfold ownP
  rw [show (⟨#[1]⟩ : ByteArray) = M.bytesOf [1] from rfl, M.bytesOf_append]
  rfl
/-- an example: what it asks, what is answered -/
def exT (Q A : ByteArray) : ByteArray := M.bytesOf [1, Q.size, A.size] ++ Q ++ A
theorem made_ex (Q A : ByteArray) : (⟨#[1]⟩ : ByteArray) ++ M.bytesOf [Q.size] ++ M.bytesOf [A.size] ++ Q ++ A = exT Q A := by
  unfold exT
  rw [show (⟨#[1]⟩ : ByteArray) = M.bytesOf [1] from rfl, M.bytesOf_append, M.bytesOf_append]
  rfl
section
variable {Q A : ByteArray}
theorem exT_all (hq : Q.size ≤ 8) (ha : A.size ≤ 8) : M.AllB [1, Q.size, A.size] := by
  intro x hx
  simp at hx
  omega
theorem exT_size : (exT Q A).size = 3 + Q.size + A.size := by
  unfold exT
  rw [ByteArray.size_append, ByteArray.size_append, M.bytesOf_size]
  rfl
theorem exT_low (hq : Q.size ≤ 8) (ha : A.size ≤ 8) {i : Nat} (hi : i < 3) : M.bz (exT Q A) i = [1, Q.size, A.size].getD i 0 := by
  unfold exT
  rw [M.bz_append, if_pos (by rw [ByteArray.size_append, M.bytesOf_size]; show i < 3 + Q.size; omega), M.bz_append, if_pos (by rw [M.bytesOf_size]; exact hi), M.bz_bytesOf (exT_all hq ha)]
theorem exT_mid {i : Nat} (hi : i < Q.size) : M.bz (exT Q A) (3 + i) = M.bz Q i := by
  unfold exT
  rw [M.bz_append, if_pos (by rw [ByteArray.size_append, M.bytesOf_size]; show 3 + i < 3 + Q.size; omega), M.bz_append, M.bytesOf_size, if_neg (by show ¬ 3 + i < 3; omega)]
  congr 1
  show 3 + i - 3 = i
  omega
theorem exT_high {i : Nat} : M.bz (exT Q A) (3 + Q.size + i) = M.bz A i := by
  unfold exT
  rw [M.bz_append, ByteArray.size_append, M.bytesOf_size, if_neg (by show ¬ 3 + Q.size + i < 3 + Q.size; omega)]
  congr 1
  show 3 + Q.size + i - (3 + Q.size) = i
  omega
theorem mk_of (s : ByteArray) : M.mk s.size (M.bz s) = s := by
  have := M.extract_mk s 0 s.size (by omega)
  simp only [Nat.zero_add] at this
  rw [← this]
  exact ByteArray.extract_zero_size ..
theorem exT_ok (hq : Q.size ≤ 8) (ha : A.size ≤ 8) : ExOk (exT Q A) := by
  right
  rw [exT_low hq ha (by omega), exT_low hq ha (by omega), exT_low hq ha (by omega), exT_size]
  refine ⟨by omega, rfl, hq, ha, rfl⟩
theorem exT_ev {N1 : ByteArray} (hi : M.isImage N1 = true) (hq : Q.size = 2 * M.bz N1 1) (hA : A = M.evalOut N1 Q) (hq8 : Q.size ≤ 8) (ha8 : A.size ≤ 8) :
    evalNum N1 (M.mk (M.bz (exT Q A) 1) fun k => M.bz (exT Q A) (3 + k)) = 0 ∧ evalTxt N1 (M.mk (M.bz (exT Q A) 1) fun k => M.bz (exT Q A) (3 + k)) = M.mk (M.bz (exT Q A) 2) fun k => M.bz (exT Q A) (3 + M.bz (exT Q A) 1 + k) := by
  have e1 : M.bz (exT Q A) 1 = Q.size := exT_low hq8 ha8 (by omega)
  have e2 : M.bz (exT Q A) 2 = A.size := exT_low hq8 ha8 (by omega)
  rw [e1, e2]
  have m1 : (M.mk Q.size fun k => M.bz (exT Q A) (3 + k)) = Q := (M.mk_congr fun k hk => exT_mid hk).trans (mk_of Q)
  have m2 : (M.mk A.size fun k => M.bz (exT Q A) (3 + Q.size + k)) = A := (M.mk_congr fun k _ => exT_high).trans (mk_of A)
  rw [m1, m2]
  unfold evalNum evalTxt
  rw [hi, if_pos rfl, if_pos hq, if_pos rfl, if_pos hq]
  exact ⟨rfl, hA.symm⟩
end
theorem made_full {c : Chg} (hw : ChgWf c) : ∃ (j : M.Job) (ex : ByteArray), Made j ex ∧ ∀ X : World, Calls Tryz.prog 24 #[chgV c] X fun e w' => e = .returned (.tuple #[jobV j ex, .bool true]) ∧ Below X.heap.size X w' := by
  have b1 := bounds_i64 hw.i1
  have b2 := bounds_i64 hw.o1
  have b3 := bounds_i64 hw.i2
  have b4 := bounds_i64 hw.o2
  have b5 := bounds_i64 hw.base
  have b6 := bounds_i64 hw.up
  have h1 := fun X : World => kFirst_any c.key 16 X hw.key (by omega)
  have h2 := fun X : World => kImage_any c.i1 c.o1 c.t1 c.s1 X b1.1 b1.2 b2.1 b2.2 hw.t1 hw.s1
  have h3 := fun X : World => kImage_any c.i2 c.o2 c.t2 c.s2 X b3.1 b3.2 b4.1 b4.2 hw.t2 hw.s2
  have f1 := (imageL_facts c.i1 c.o1 c.t1 c.s1).1
  have f2 := (imageL_facts c.i2 c.o2 c.t2 c.s2).1
  have hk : (fstT c.key 16).size ≤ 16 := by rw [fstT_size]; omega
  generalize fstT c.key 16 = K1 at *
  generalize M.bytesOf (imageL c.i1 c.o1 c.t1 c.s1) = O1 at *
  generalize M.bytesOf (imageL c.i2 c.o2 c.t2 c.s2) = N1 at *
  have s1 := M.image_size f1
  have s2 := M.image_size f2
  have w1 := inW_le c.base (lo := 0) (hi := 65534) (by omega)
  have h4 : ∀ X : World, Calls Tryz.prog 42 #[.int .i64 c.base, .int .i64 0, .int .i64 65534] X fun e w' => e = .returned (.int .i64 (inW c.base 0 65534)) ∧ X = w' := fun X => kWithin_any c.base 0 65534 X b5.1 b5.2 (by omega) (by omega)
  generalize inW c.base 0 65534 = ba at *
  have w2 := inW_le c.up (lo := ba + 1) (hi := 65535) (by omega)
  have h5 : ∀ X : World, Calls Tryz.prog 42 #[.int .i64 c.up, .int .i64 ((ba : Int) + 1), .int .i64 65535] X fun e w' => e = .returned (.int .i64 (inW c.up (ba + 1) 65535)) ∧ X = w' := fun X => kWithin_any c.up (ba + 1) 65535 X b6.1 b6.2 (by omega) (by omega)
  generalize inW c.up (ba + 1) 65535 = u at *
  have h6 := fun X : World => kOne_any N1.size X (by omega)
  have zP : (M.bytesOf [N1.size]).size = 1 := by rw [M.bytesOf_size]; rfl
  have hOP := made_op N1
  have z1 : ∀ x : Nat, (M.bytesOf [x]).size = 1 := fun x => by rw [M.bytesOf_size]; rfl
  -- the patch
  have gOwn := ownP_res O1 N1 (by omega)
  have zOwn := ownP_size N1
  have gDiff := diffP_res O1 N1 (by omega)
  have zD1 := diffP_least O1 N1 (by omega) s2.2
  have zD2 := M.diffT_two O1 N1
  have h7 := fun X : World => slotsDiff_ok O1 N1 X (by omega) (by omega)
  -- the example
  obtain ⟨g0, g1, g2, g3, g4, g5, g6⟩ := M.headOk_eq (image_head f2)
  have h8 := fun X : World => kQuestion_any N1 c.ask X (by omega) (by omega) hw.ask
  have zQ : (M.bytesOf (M.fillL c.ask (2 * M.bz N1 1))).size = 2 * M.bz N1 1 := by rw [M.bytesOf_size, M.fillL_length]
  generalize M.bytesOf (M.fillL c.ask (2 * M.bz N1 1)) = Q at *
  have h9 := fun X : World => kAnswers_any N1 Q X f2 zQ
  have zA := evalOut_size N1 Q
  have h10 := fun X : World => kOne_any Q.size X (by omega)
  have h11 := fun X : World => kOne_any (M.evalOut N1 Q).size X (by omega)
  have xok : ExOk (exT Q (M.evalOut N1 Q)) := exT_ok (by omega) (by omega)
  have xev := exT_ev (A := M.evalOut N1 Q) f2 zQ rfl (by omega) (by omega)
  have zX : (exT Q (M.evalOut N1 Q)).size ≤ 1000 := by rw [exT_size]; omega
  have nok : ExOk ⟨#[0]⟩ := .inl ⟨rfl, rfl⟩
  have nev : M.bz (⟨#[0]⟩ : ByteArray) 0 = 1 → evalNum N1 (M.mk (M.bz (⟨#[0]⟩ : ByteArray) 1) fun k => M.bz (⟨#[0]⟩ : ByteArray) (3 + k)) = 0 ∧ evalTxt N1 (M.mk (M.bz (⟨#[0]⟩ : ByteArray) 1) fun k => M.bz (⟨#[0]⟩ : ByteArray) (3 + k)) = M.mk (M.bz (⟨#[0]⟩ : ByteArray) 2) fun k => M.bz (⟨#[0]⟩ : ByteArray) (3 + M.bz (⟨#[0]⟩ : ByteArray) 1 + k) := fun h => absurd h (by decide)
  -- the job
  have job : ∀ (P ex : ByteArray), 1 ≤ P.size → P.size ≤ 96 → M.patchRes O1 P N1.size = some N1 → ExOk ex → ex.size ≤ 1000 →
      (M.bz ex 0 = 1 → evalNum N1 (M.mk (M.bz ex 1) fun k => M.bz ex (3 + k)) = 0 ∧ evalTxt N1 (M.mk (M.bz ex 1) fun k => M.bz ex (3 + k)) = M.mk (M.bz ex 2) fun k => M.bz ex (3 + M.bz ex 1 + k)) →
      Made ⟨K1, O1, N1, ba, u, P, sealedT ⟨K1, O1, N1, ba, u, P, ⟨#[]⟩⟩ ex ba u⟩ ex ∧
      ∀ X : World, Calls Tryz.prog 45 #[.agg #[.string K1, .string O1, .string N1, .int .i64 ba, .int .i64 u, .string P, .string ex, .string ⟨#[]⟩], .int .i64 ba, .int .i64 u] X fun e w' => e = .returned (.string (sealedT ⟨K1, O1, N1, ba, u, P, ⟨#[]⟩⟩ ex ba u)) ∧ Below X.heap.size X w' := by
    intro P ex p1 p2 pg xo xz xe
    refine ⟨⟨jobOk_of ⟨K1, O1, N1, ba, u, P, sealedT ⟨K1, O1, N1, ba, u, P, ⟨#[]⟩⟩ ex ba u⟩ ex f1 f2 (by show ba < u; omega) (by show u ≤ 65535; omega) p1 p2 pg xo xe (sealedT_man ..), hk, xo, sealedT_man ..⟩, fun X => ?_⟩
    exact sealed_any ⟨K1, O1, N1, ba, u, P, ⟨#[]⟩⟩ ex ba u X (by omega) (by omega) p2 (by show N1.size ≤ 96; omega) hk xz
  cases hd : c.diffed with
  | false =>
    cases he : c.shown with
    | false =>
      obtain ⟨m, hs⟩ := job (ownP N1) ⟨#[0]⟩ (by omega) (by omega) gOwn nok (by decide) nev
      exact ⟨_, _, m, fun X => worked_00 c X K1 O1 N1 _ _ _ ba u (by omega) (by omega) zP hOP hd he h1 h2 h3 h4 h5 h6 hs⟩
    | true =>
      obtain ⟨m, hs⟩ := job (ownP N1) (exT Q (M.evalOut N1 Q)) (by omega) (by omega) gOwn xok zX (fun _ => xev)
      exact ⟨_, _, m, fun X => worked_01 c X K1 O1 N1 _ _ Q _ _ _ _ _ ba u (by omega) (by omega) zP hOP (made_ex Q _) hd he (by omega) (z1 _) (by omega) (z1 _) h1 h2 h3 h4 h5 h6 h8 h9 h10 h11 hs⟩
  | true =>
    cases he : c.shown with
    | false =>
      obtain ⟨m, hs⟩ := job (M.diffT O1 N1) ⟨#[0]⟩ zD1 (by omega) gDiff nok (by decide) nev
      exact ⟨_, _, m, fun X => worked_10 c X K1 O1 N1 _ _ (M.diffT O1 N1) _ ba u (by omega) (by omega) zP hOP hd he (by omega) (by omega) h1 h2 h3 h4 h5 h6 h7 hs⟩
    | true =>
      obtain ⟨m, hs⟩ := job (M.diffT O1 N1) (exT Q (M.evalOut N1 Q)) zD1 (by omega) gDiff xok zX (fun _ => xev)
      exact ⟨_, _, m, fun X => worked_11 c X K1 O1 N1 _ _ (M.diffT O1 N1) Q _ _ _ _ _ ba u (by omega) (by omega) zP hOP (made_ex Q _) hd he (by omega) (by omega) (by omega) (z1 _) (by omega) (z1 _) h1 h2 h3 h4 h5 h6 h7 h8 h9 h10 h11 hs⟩
theorem made_run {c : Chg} (hw : ChgWf c) : ∃ (j : M.Job) (ex : ByteArray), Made j ex ∧ ∀ {inp : ByteArray}, inp.size ≤ maxLen → ∀ X : World, Calls Tryz.prog 7 #[chgV c, .string inp] X fun e w' => Begun X j ex inp e w' := by
  obtain ⟨j, ex, m, h⟩ := made_full hw
  exact ⟨j, ex, m, fun hin X => begin_any X m.ok m.key hin h⟩
theorem made {c : Chg} (hw : ChgWf c) : ∃ (j : M.Job) (ex : ByteArray), M.JobOk j ∧ j.man.size ≤ maxLen ∧ ∀ {inp : ByteArray}, inp.size ≤ maxLen → ∀ X : World, Calls Tryz.prog 7 #[chgV c, .string inp] X fun e w' => Begun X j ex inp e w' := by
  obtain ⟨j, ex, m, h⟩ := made_run hw
  exact ⟨j, ex, m.ok, m.size, h⟩
end Go.Proofs.YtjfmiomopfjecaaGreat

/- Updated: a new image comes over, is served on trial, and confirmed it is kept. -/
namespace Go.Proofs.YtjfmiomopfjecaaGreat
open Go.RowKit Go.Lib

set_option maxRecDepth 10000 in
set_option maxHeartbeats 1000000 in
theorem updated_any {W : World} {c : Chg} {j : M.Job} {ex inp : ByteArray} {v : Value} {l : List Int} (hv : HoldsArg W v l.length (intCells l)) (hl : ∀ x ∈ l, -9223372036854775808 ≤ x ∧ x ≤ 9223372036854775807)
    (hj : M.JobOk j) (hm : j.man.size ≤ maxLen) (hin : inp.size ≤ maxLen)
    (hbg : ∀ X : World, Calls Tryz.prog 7 #[chgV c, .string inp] X fun e w' => Begun X j ex inp e w') :
    Calls Tryz.prog 5 #[chgV c, v, .string inp] W fun e w' => e = .returned (.bool true) ∧ Below W.heap.size W w' := by
  have hlen := hv.len
  unfold maxLen at hlen
  have HV := hide hv
  have hsh : ∃ p cap, v = .slice p l.length cap := by
    rcases hv with ⟨p, cap, rfl, h⟩ | ⟨g, off, cap, rfl, _⟩
    · exact ⟨p, cap, by rw [h]⟩
    · exact ⟨_, _, rfl⟩
  clear hv
  obtain ⟨p, cap, rfl⟩ := hsh
  have HL := hide hl
  have HJ := hide hj
  have HM := hide hm
  have HIN := hide hin
  have HBG := hide hbg
  have hn1 : 1 ≤ M.chunksN j.patch.size := by have := hj.least; unfold M.chunksN; omega
  have hn6 : M.chunksN j.patch.size ≤ 6 := by have := hj.most; unfold M.chunksN; omega
  have HCS := hide (fun X : World => jobChunks_any j ex X hj.most)
  clear hl hj hm hin hbg
  go_enter Tryz.func5, Tryz.ntmps5
  go_wp2_with fail
  refine (unhide HBG _).mono ?_
  rintro e w1 ⟨r, b, d, rfl, hr1, hs1, hb1, hge1, hge2⟩
  have hbW := ((Below.refl W.heap.size W).alloc (Nat.le_refl _) (.cells #[.int .i64 c.i1, .int .i64 c.o1, .string c.t1, .string c.s1, .int .i64 c.i2, .int .i64 c.o2, .string c.t2, .string c.s2, .string c.key, .int .i64 c.base, .int .i64 c.up, .bool c.diffed, .bool c.shown, .string c.ask] 33)).trans (hb1.mono (by simp))
  have hW1 := hbW.size
  have HBW := hide hbW
  have hge : W.heap.size ≤ b := by simp at hge2; omega
  have HR1 := hide hr1
  have HS1 := hide hs1
  have K := hide hr1.run
  obtain ⟨hxr, hfr⟩ := block_facts hr1.run
  have rule2 : ∀ (X : World) (o : Nat), X.heap[r]? = some (.cells (runC b j ex inp true) 41 (0, 0)) → X.cell? ⟨r, o, none⟩ = (runC b j ex inp true)[o]? := fun X o h => cell_in h o
  clear hr1 hs1 hb1 hge1 hge2 hbW HBG
  have HOF := hide (fun (X : World) (hX : RunRel X r b j ex inp d) => offer_st (unhide HJ) (unhide HM) hX (unhide HS1) (by omega))
  go_wp2_with fail
  clear hxr hfr
  go_region_held3 (fun X => X.heap[r]? = some (.cells (runC b j ex inp true) 41 (0, 0))) (repeat (first | with_reducible exact hC2 | with_reducible exact unhide K | with_reducible refine drew_block ?_)) ((go_at_call 8; refine (unhide HOF _ ((unhide HR1).kept (Below.refl _ _).drew)).mono ?_; rintro y w2 ⟨d2, ⟨rfl, hr2, ho2⟩, hs2, hwt, hnx⟩; have hC2 := hr2.run))
  all_goals
    have HR2 := hide hr2
    have HS2 := hide hs2
    have HO2 := hide ((Only.of (p := (· = b)) ((Below.refl w1.heap.size w1).drew)).trans ho2)
    clear hr2 hs2 ho2 hwt hnx hC2 HOF HS1 HR1 K
    try clear hHeld
    go_wp2_with fail
    go_loopw [8] (fun i wr => ∃ (k : Nat) (d' : M.Dev) (tr' th' : Nat), k ≤ l.length ∧ i = .int .i64 k ∧ RunRel wr r b j ex inp d' ∧ Only (· = b) w1 wr ∧ M.St j d' 1 tr' th' false) (fun i _ => l.length - (intOf i).toNat)
    case atStart => exact ⟨0, d2, 0, 0, by omega, rfl, unhide HR2, unhide HO2, unhide HS2⟩
    case round =>
      clear HR2 HS2 HO2
      obtain ⟨k, d3, tr3, th3, hk, rfl, hr3, ho3, hs3⟩ := hrel
      have HR3 := hide hr3
      have HS3 := hide hs3
      have HO3 := hide ho3
      have hBel := (unhide HBW).trans (ho3.below (B := W.heap.size) hW1 fun q hq => by rw [hq]; exact hge)
      have HBL := hide hBel
      have K3 := hide hr3.run
      have hv3 := (unhide HV).mono hBel
      have hblt := hr3.lt.2
      clear hr3 hs3 ho3
      by_cases hlt : k < l.length
      · rcases hv3 with ⟨_, _, h, hn⟩ | ⟨g, off, cap', h, hg, h1, h2, h3⟩
        · exact absurd hlt (by omega)
        · injection h with hp _ hcap
          subst hp hcap
          have hgW : g < W.heap.size := by
            rcases unhide HV with ⟨_, _, h, hn⟩ | ⟨g', off', cap', h, hg', _⟩
            · exact absurd hlt (by omega)
            · injection h with hp _ _
              injection hp with hp
              injection hp with hp _
              subst hp
              exact hg'
          have hgb : ¬ g = b := by omega
          have hc := h3 k _ (intCells_at hlt)
          have hx := unhide HL (l.getD k 0) (by rw [List.getD_eq_getElem?_getD, List.getElem?_eq_getElem hlt]; exact List.getElem_mem hlt)
          clear h3 hBel
          have HN : Hid (M.pk (l.getD k 0) (M.chunksN j.patch.size) < M.chunksN j.patch.size) := M.pk_lt _ _ (by omega)
          have HCK := hide (fun (X : World) (hX : RunRel X r b j ex inp d3) => chunk_st (unhide HJ) hX (unhide HS3) (unhide HN))
          have KC := hide hc
          generalize l.getD k 0 = x at *
          generalize l.length = n at *
          have HPK := hide (fun X : World => kPick_any x (M.chunksN j.patch.size) X hx.1 hx.2 hn1 (by omega))
          generalize M.chunksN j.patch.size = nc at *
          generalize M.pk x nc = pk at *
          clear hc
          go_wp2_with fail
          go_region_held3 (fun X => X.heap[r]? = some (.cells (runC b j ex inp true) 41 (0, 0)) ∧ X.cell? ⟨g, off + k, none⟩ = some (.int .i64 x)) (refine ⟨?_, ?_⟩ <;> (repeat (first | with_reducible exact hC6 | with_reducible exact hD6 | with_reducible exact hC4 | with_reducible exact hD4 | with_reducible exact unhide K3 | with_reducible exact unhide KC | with_reducible refine drew_block ?_ | with_reducible refine drew_cell ?_))) ((first | (go_at_call 11; refine (unhide HCS _).mono ?_; rintro y w4 ⟨rfl, hb4⟩; have hC4 := kept_block hb4 (drew_block (unhide K3)); have hD4 := (hb4.cell (p := ⟨g, off + k, none⟩) hg).trans (unhide KC)) | (go_at_call 10; refine (unhide HPK _).mono ?_; rintro y w5 ⟨rfl, rfl⟩) | (go_at_call 9; refine (unhide HCK _ ((unhide HR3).kept ((Below.refl _ _).drew.trans hb4))).mono ?_; rintro y w6 ⟨d6, ⟨rfl, hr6, ho6⟩, hs6⟩; have hC6 := hr6.run; have hD6 := (ho6.cell (a := ⟨g, off + k, none⟩) (Nat.lt_of_lt_of_le hg hb4.size) hgb).trans hD4)))
          all_goals
            have HR6 := hide hr6
            have HS6 := hide hs6
            have HO6 := hide (((unhide HO3).trans (Only.of ((Below.refl _ _).drew.trans hb4))).trans ho6)
            clear hr6 hs6 ho6 hC6 hD6 hC4 hD4 hb4 HCK HPK HCS
            go_wp2
            go_roundw
            case rel => exact ⟨k + 1, d6, 0, _, by omega, by go_num, unhide HR6, unhide HO6, unhide HS6⟩
            case measure => simp [intOf]; omega
      · clear hBel hv3 K3 HCS rule2 HV HL
        have hkn : ¬ (k : Int) < (l.length : Int) := by omega
        generalize l.length = n at *
        have HC7 := hide (fed_st (unhide HJ) (unhide HR3) (unhide HS3))
        go_wp2_with fail
        refine (unhide HC7).mono ?_
        rintro e w7 ⟨d7, tr7, th7, ⟨rfl, hr7, ho7⟩, hs7, ha7⟩
        have HR7 := hide hr7
        have HO7 := hide ((unhide HO3).trans ho7)
        obtain ⟨hx7, hf7⟩ := block_facts hr7.run
        clear hr7 ho7 HC7 HR3 HO3
        have HC8 := hide (install_st (unhide HJ) (unhide HR7) hs7 ha7)
        clear ha7 hs7
        go_wp2_with fail
        refine (unhide HC8).mono ?_
        rintro e w8 ⟨d8, ⟨rfl, hr8, ho8⟩, hs8, hage⟩
        have HR8 := hide hr8
        have HO8 := hide ((unhide HO7).trans ho8)
        obtain ⟨hx8, hf8⟩ := block_facts hr8.run
        clear hr8 ho8 HC8 HR7 HO7 hx7 hf7
        have HC9 := hide (serves_st (unhide HJ) (unhide HR8) hs8 (unhide HIN))
        rw [show M.verP j 2 false = j.up from by simp [M.verP]] at HC9
        go_wp2_with fail
        refine (unhide HC9).mono ?_
        rintro e w9 ⟨rfl, hr9, ho9⟩
        have HR9 := hide hr9
        have HO9 := hide ((unhide HO8).trans ho9)
        obtain ⟨hx9, hf9⟩ := block_facts hr9.run
        clear hr9 ho9 HC9 HR8 HO8 hx8 hf8
        have HC10 := hide (confirm_st (unhide HJ) (unhide HR9) hs8)
        clear hage
        go_wp2_with fail
        refine (unhide HC10).mono ?_
        rintro e w10 ⟨d10, ⟨rfl, hr10, ho10⟩, hs10⟩
        have HR10 := hide hr10
        have HO10 := hide ((unhide HO9).trans ho10)
        obtain ⟨hx10, hf10⟩ := block_facts hr10.run
        clear hr10 ho10 HC10 HR9 HO9 hx9 hf9
        have HC11 := hide (phase_st (unhide HR10) hs10 (kv := j.up) (by simp))
        go_wp2_with fail
        refine (unhide HC11).mono ?_
        rintro e w11 ⟨rfl, hb11⟩
        have HR11 := hide ((unhide HR10).kept hb11)
        have HO11 := hide ((unhide HO10).trans (Only.of hb11))
        obtain ⟨hx11, hf11⟩ := block_facts (unhide HR11).run
        clear HC11 hb11 hx10 hf10 HR10 HO10
        have HC12 := hide (again_st (unhide HJ) (unhide HR11) hs10 (ph' := 0) (tr' := 0) (th' := 0) (by simp))
        rw [show M.verP j 0 true = j.up from by simp [M.verP]] at HC12
        go_wp2_with fail
        refine (unhide HC12).mono ?_
        rintro e w12 ⟨d12, ⟨rfl, hr12, ho12⟩, hs12, hw12, hn12, ha12⟩
        have HR12 := hide hr12
        have HO12 := hide ((unhide HO11).trans ho12)
        obtain ⟨hx12, hf12⟩ := block_facts hr12.run
        clear hr12 ho12 HC12 HR11 HO11 hx11 hf11
        have HC13 := hide (serves_st (unhide HJ) (unhide HR12) hs12 (unhide HIN))
        clear hw12 hn12 ha12
        rw [show M.verP j 0 true = j.up from by simp [M.verP]] at HC13
        go_wp2_with fail
        refine (unhide HC13).mono ?_
        rintro e w13 ⟨rfl, hr13, ho13⟩
        have HR13 := hide hr13
        have HO13 := hide ((unhide HO12).trans ho13)
        obtain ⟨hx13, hf13⟩ := block_facts hr13.run
        clear hr13 ho13 HC13 HR12 HO12 hx12 hf12
        have HB := hide ((unhide HBW).trans ((unhide HO13).below (B := W.heap.size) hW1 fun q hq => by rw [hq]; exact hge))
        go_wp2
        go_ret
        exact ⟨rfl, unhide HB⟩
end Go.Proofs.YtjfmiomopfjecaaGreat

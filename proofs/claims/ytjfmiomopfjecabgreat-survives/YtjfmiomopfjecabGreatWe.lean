/- Texts laid together: BoxMath, NodeLeaf, PatchLeaf, PatchStep, FlashLeaf, PatchRead, PatchTake. -/
import Derived.Test.YtjfmiomopfjecabGreatWd
import Derived.Laws.Tables
import Derived.Deep.WholeRow
import Derived.Test.YtjfmiomopfjecabGreatWb
import Derived.Test.YtjfmiomopfjecabGreatWa
import Derived.Deep.RegionHeld3
import Derived.Deep.QuietTactic
import Derived.BigQuiet
import Derived.Lib.AppendStr
import Derived.Test.YtjfmiomopfjecabGreatWc
/- A device in memory: one block of 373 cells; worlds of which some blocks alone change. -/
namespace Go.Proofs.YtjfmiomopfjecabGreat
open Go.RowKit

/-- n bytes, each in its cell -/
def byteC (n : Nat) (F : Nat → Nat) : List Value := (List.range n).map fun j => Value.int .u8 (F j : Int)
theorem byteC_length (n : Nat) (F : Nat → Nat) : (byteC n F).length = n := by simp [byteC]
theorem byteC_at {n : Nat} {F : Nat → Nat} {j : Nat} (h : j < n) : (byteC n F)[j]? = some (.int .u8 (F j : Int)) := by simp [byteC, h]
def tailC (on : Bool) (wait next age : Nat) : List Value := [.bool on, .int .i64 wait, .int .i64 next, .int .i64 age]
/-- the cells of a device: its key, its flash, whether it is on, its memory -/
def devCells (key : ByteArray) (F : Nat → Nat) (on : Bool) (wait next age : Nat) : Array Value := (Value.string key :: (byteC 368 F ++ tailC on wait next age)).toArray
theorem devCells_size (key : ByteArray) (F : Nat → Nat) (on : Bool) (wait next age : Nat) : (devCells key F on wait next age).size = 373 := by simp [devCells, byteC_length, tailC]
theorem devCells_key (key : ByteArray) (F : Nat → Nat) (on : Bool) (wait next age : Nat) : (devCells key F on wait next age)[0]? = some (.string key) := by simp [devCells]
theorem devCells_flash (key : ByteArray) (F : Nat → Nat) (on : Bool) (wait next age : Nat) {j : Nat} (h : j < 368) : (devCells key F on wait next age)[1 + j]? = some (.int .u8 (F j : Int)) := by
  unfold devCells
  rw [List.getElem?_toArray, Nat.add_comm 1 j, List.getElem?_cons_succ, List.getElem?_append_left (by rw [byteC_length]; exact h), byteC_at h]
theorem devCells_tail (key : ByteArray) (F : Nat → Nat) (on : Bool) (wait next age : Nat) (i : Nat) : (devCells key F on wait next age)[369 + i]? = (tailC on wait next age)[i]? := by
  unfold devCells
  rw [List.getElem?_toArray, show 369 + i = 368 + i + 1 from by omega, List.getElem?_cons_succ, List.getElem?_append_right (by rw [byteC_length]; omega), byteC_length, show 368 + i - 368 = i from by omega]
/-- a device lies in block b -/
def DevAt (w : World) (b : Nat) (t : TypeId) (key : ByteArray) (F : Nat → Nat) (on : Bool) (wait next age : Nat) : Prop := w.heap[b]? = some (.cells (devCells key F on wait next age) t (0, 0))
theorem cell_in {w : World} {b : Nat} {c : Array Value} {t : TypeId} {fr : Nat × Nat} (h : w.heap[b]? = some (.cells c t fr)) (o : Nat) : w.cell? ⟨b, o, none⟩ = c[o]? := by
  unfold World.cell?
  rw [h]
  rfl
section
variable {w : World} {b : Nat} {t : TypeId} {key : ByteArray} {F : Nat → Nat} {on : Bool} {wait next age : Nat}
theorem DevAt.lt (h : DevAt w b t key F on wait next age) : b < w.heap.size := (Array.getElem?_eq_some_iff.1 h).1
theorem DevAt.keyC (h : DevAt w b t key F on wait next age) : w.cell? ⟨b, 0, none⟩ = some (.string key) := (cell_in h 0).trans (devCells_key ..)
theorem DevAt.flash (h : DevAt w b t key F on wait next age) {j : Nat} (hj : j < 368) : w.cell? ⟨b, 1 + j, none⟩ = some (.int .u8 (F j : Int)) := (cell_in h _).trans (devCells_flash _ _ _ _ _ _ hj)
theorem DevAt.onC (h : DevAt w b t key F on wait next age) : w.cell? ⟨b, 369, none⟩ = some (.bool on) := (cell_in h _).trans (devCells_tail _ _ _ _ _ _ 0)
theorem DevAt.waitC (h : DevAt w b t key F on wait next age) : w.cell? ⟨b, 370, none⟩ = some (.int .i64 wait) := (cell_in h _).trans (devCells_tail _ _ _ _ _ _ 1)
theorem DevAt.nextC (h : DevAt w b t key F on wait next age) : w.cell? ⟨b, 371, none⟩ = some (.int .i64 next) := (cell_in h _).trans (devCells_tail _ _ _ _ _ _ 2)
theorem DevAt.ageC (h : DevAt w b t key F on wait next age) : w.cell? ⟨b, 372, none⟩ = some (.int .i64 age) := (cell_in h _).trans (devCells_tail _ _ _ _ _ _ 3)
theorem DevAt.free (h : DevAt w b t key F on wait next age) (o : Nat) : w.frozen? ⟨b, o, none⟩ = false := by
  unfold World.frozen?
  rw [h]
  simp
theorem setCell_in {w : World} {b : Nat} {c : Array Value} {t : TypeId} {fr : Nat × Nat} (h : w.heap[b]? = some (.cells c t fr)) (o : Nat) (v : Value) : (w.setCell ⟨b, o, none⟩ v).heap[b]? = some (.cells (c.setIfInBounds o v) t fr) := by
  unfold World.setCell
  rw [Array.getElem?_modify, if_pos rfl, h]
  rfl
theorem devCells_set (key : ByteArray) (F : Nat → Nat) (on : Bool) (wait next age : Nat) {j : Nat} (h : j < 368) (x : Nat) : (devCells key F on wait next age).setIfInBounds (1 + j) (.int .u8 (x : Int)) = devCells key (fun i => if i = j then x else F i) on wait next age := by
  apply Array.ext_getElem?
  intro i
  rw [Array.getElem?_setIfInBounds, devCells_size]
  by_cases e : 1 + j = i
  · subst e
    rw [if_pos rfl, if_pos (by omega), devCells_flash _ _ _ _ _ _ h, if_pos rfl]
  · rw [if_neg e]
    by_cases h0 : i = 0
    · subst h0; rw [devCells_key, devCells_key]
    · by_cases h1 : i < 369
      · obtain ⟨k, rfl⟩ : ∃ k, i = 1 + k := ⟨i - 1, by omega⟩
        rw [devCells_flash _ _ _ _ _ _ (by omega), devCells_flash _ _ _ _ _ _ (by omega), if_neg (by omega)]
      · obtain ⟨k, rfl⟩ : ∃ k, i = 369 + k := ⟨i - 369, by omega⟩
        rw [devCells_tail, devCells_tail]
theorem DevAt.put (h : DevAt w b t key F on wait next age) {j : Nat} (hj : j < 368) (x : Nat) : DevAt (w.setCell ⟨b, 1 + j, none⟩ (.int .u8 (x : Int))) b t key (fun i => if i = j then x else F i) on wait next age := by
  unfold DevAt
  rw [setCell_in h, devCells_set _ _ _ _ _ _ hj]
theorem devCells_setTail (key : ByteArray) (F : Nat → Nat) (on on' : Bool) (wait next age wait' next' age' : Nat) (k : Nat) (v : Value) (hk : (tailC on wait next age).set k v = tailC on' wait' next' age') :
    (devCells key F on wait next age).setIfInBounds (369 + k) v = devCells key F on' wait' next' age' := by
  unfold devCells
  rw [List.setIfInBounds_toArray, show 369 + k = 368 + k + 1 from by omega, List.set_cons_succ, List.set_append_right _ _ (by rw [byteC_length]; omega), byteC_length, show 368 + k - 368 = k from by omega, hk]
theorem DevAt.setOn (h : DevAt w b t key F on wait next age) (on' : Bool) : DevAt (w.setCell ⟨b, 369, none⟩ (.bool on')) b t key F on' wait next age := by
  unfold DevAt
  rw [setCell_in h]
  exact congrArg (fun c => some (Obj.cells c t (0, 0))) (devCells_setTail _ _ _ _ _ _ _ _ _ _ 0 _ rfl)
theorem DevAt.setWait (h : DevAt w b t key F on wait next age) (x : Nat) : DevAt (w.setCell ⟨b, 370, none⟩ (.int .i64 x)) b t key F on x next age := by
  unfold DevAt
  rw [setCell_in h]
  exact congrArg (fun c => some (Obj.cells c t (0, 0))) (devCells_setTail _ _ _ _ _ _ _ _ _ _ 1 _ rfl)
theorem DevAt.setNext (h : DevAt w b t key F on wait next age) (x : Nat) : DevAt (w.setCell ⟨b, 371, none⟩ (.int .i64 x)) b t key F on wait x age := by
  unfold DevAt
  rw [setCell_in h]
  exact congrArg (fun c => some (Obj.cells c t (0, 0))) (devCells_setTail _ _ _ _ _ _ _ _ _ _ 2 _ rfl)
theorem DevAt.setAge (h : DevAt w b t key F on wait next age) (x : Nat) : DevAt (w.setCell ⟨b, 372, none⟩ (.int .i64 x)) b t key F on wait next x := by
  unfold DevAt
  rw [setCell_in h]
  exact congrArg (fun c => some (Obj.cells c t (0, 0))) (devCells_setTail _ _ _ _ _ _ _ _ _ _ 3 _ rfl)
theorem DevAt.mono {w' : World} {B : Nat} (h : DevAt w b t key F on wait next age) (hb : Below B w w') (hB : b < B) : DevAt w' b t key F on wait next age := (hb.block b hB).trans h
end

/-- of what was there, the blocks in p alone may hold something else -/
structure Only (p : Nat → Prop) (w w' : World) : Prop where
  os : w'.os = w.os
  tape : w'.tape = w.tape
  output : w'.output = w.output
  size : w.heap.size ≤ w'.heap.size
  block : ∀ k, k < w.heap.size → ¬ p k → w'.heap[k]? = w.heap[k]?
theorem Only.refl (p : Nat → Prop) (w : World) : Only p w w := ⟨rfl, rfl, rfl, Nat.le_refl _, fun _ _ _ => rfl⟩
theorem Only.trans {p : Nat → Prop} {a b c : World} (h : Only p a b) (k : Only p b c) : Only p a c :=
  ⟨k.os.trans h.os, k.tape.trans h.tape, k.output.trans h.output, Nat.le_trans h.size k.size, fun i hi hn => (k.block i (Nat.lt_of_lt_of_le hi h.size) hn).trans (h.block i hi hn)⟩
theorem Only.of {p : Nat → Prop} {w w' : World} (h : Below w.heap.size w w') : Only p w w' := ⟨h.os, h.tape, h.output, h.size, fun k hk _ => h.block k hk⟩
theorem Only.mono {p q : Nat → Prop} {w w' : World} (h : Only p w w') (hp : ∀ k, p k → q k) : Only q w w' := ⟨h.os, h.tape, h.output, h.size, fun k hk hn => h.block k hk fun e => hn (hp k e)⟩
theorem Only.below {p : Nat → Prop} {w w' : World} {B : Nat} (h : Only p w w') (hB : B ≤ w.heap.size) (hp : ∀ k, p k → B ≤ k) : Below B w w' :=
  ⟨h.os, h.tape, h.output, h.size, fun k hk => h.block k (Nat.lt_of_lt_of_le hk hB) fun e => absurd (hp k e) (by omega)⟩
theorem only_set (w : World) (b o : Nat) (v : Value) : Only (· = b) w (w.setCell ⟨b, o, none⟩ v) := by
  refine ⟨rfl, rfl, rfl, by simp [World.setCell], fun k _ hn => ?_⟩
  unfold World.setCell
  rw [Array.getElem?_modify, if_neg (fun e => hn e.symm)]
theorem only_alloc (p : Nat → Prop) (w : World) (o : Obj) : Only p w (w.alloc o) := Only.of ((Below.refl _ _).alloc (Nat.le_refl _) _)
theorem Only.drop {p : Nat → Prop} {w w' : World} (h : Only p w w') (hp : ∀ k, p k → w.heap.size ≤ k) : Below w.heap.size w w' := h.below (Nat.le_refl _) hp
theorem Only.drew {p : Nat → Prop} {w w' : World} (h : Only p w w') : Only p w w'.drew := ⟨h.os, h.tape, h.output, h.size, h.block⟩
theorem DevAt.drew {w : World} {b : Nat} {t : TypeId} {key : ByteArray} {F : Nat → Nat} {on : Bool} {wait next age : Nat} (h : DevAt w b t key F on wait next age) : DevAt w.drew b t key F on wait next age := h
theorem DevAt.same {w : World} {b : Nat} {t : TypeId} {key : ByteArray} {F F' : Nat → Nat} {on : Bool} {wait next age : Nat} (h : DevAt w b t key F on wait next age) (e : F = F') : DevAt w b t key F' on wait next age := e ▸ h
/-- what lies in a block that does not change -/
theorem Only.cell {p : Nat → Prop} {w w' : World} (h : Only p w w') {a : Addr} (hk : a.block < w.heap.size) (hn : ¬ p a.block) : w'.cell? a = w.cell? a := by
  unfold World.cell?
  rw [h.block _ hk hn]
theorem HoldsRow.only {p : Nat → Prop} {w w' : World} {v : Value} {n : Nat} {xs : List Value} (h : HoldsRow w v n xs) (ho : Only p w w') (hne : ∀ g, v.ownBlock = some g → ¬ p g) : HoldsRow w' v n xs := by
  rcases h with h | ⟨g, cap, rfl, hg, h1, h2, h3⟩
  · exact .inl h
  · refine .inr ⟨g, cap, rfl, Nat.lt_of_lt_of_le hg ho.size, h1, h2, fun j u hj => ?_⟩
    exact (ho.cell (a := ⟨g, j, none⟩) hg (hne g rfl)).trans (h3 j u hj)

theorem bytes_of (l : List Int) (r : ByteArray) : l.foldl (fun r n => r.push (UInt8.ofNat n.toNat)) r = ⟨(r.data.toList ++ l.map fun n => UInt8.ofNat n.toNat).toArray⟩ := by
  induction l generalizing r with
  | nil => simp
  | cons x l ih => rw [List.foldl_cons, ih]; simp [ByteArray.push]
theorem mk_cells (n : Nat) (F : Nat → Nat) : ((List.range n).map fun j => (F j : Int)).foldl (fun r n => r.push (UInt8.ofNat n.toNat)) (⟨#[]⟩ : ByteArray) = M.mk n F := by
  rw [bytes_of]
  unfold M.mk M.bytesOf
  simp only [List.map_map]
  rfl
/-- n bytes of a block as a text -/
theorem cells_text {w : World} {b o n : Nat} {F : Nat → Nat} (h : ∀ j, j < n → w.cell? ⟨b, o + j, none⟩ = some (.int .u8 (F j : Int))) :
    (convert 79 9 (.slice (some ⟨b, o, none⟩) n n)).run Tryz.prog w = .ok (.string (M.mk n F)) w := by
  have hl : (loadCells ⟨b, o, none⟩ n).run Tryz.prog w = .ok (((List.range n).map fun j => (F j : Int)).map (Value.int .u8)).toArray w := by
    have h5 := run_loadCells_list (P := Tryz.prog) (w := w) ⟨b, o, none⟩ (((List.range n).map fun j => (F j : Int)).map (Value.int .u8)) (by
      intro j v hj
      have hlt : j < n := by
        have := List.getElem?_eq_some_iff.1 hj
        simpa using this.1
      have e : (⟨b, o, none⟩ : Addr).add j = ⟨b, o + j, none⟩ := by unfold Addr.add; split <;> simp_all
      rw [e, h j hlt, ← hj]
      simp [hlt])
    simpa using h5
  rw [run_convert_bytes_string _ 79 9 5 _ _ _ Tryz.underlying79 Tryz.underlying5 Tryz.underlying9, run_bytesToString _ _ _ _ _ hl]
  rw [← mk_cells]
  rfl
/-- the whole flash as a text -/
theorem flash_cells {w : World} {b : Nat} {t : TypeId} {key : ByteArray} {F : Nat → Nat} {on : Bool} {wait next age : Nat} (h : DevAt w b t key F on wait next age) :
    (convert 79 9 (.slice (some ⟨b, 1, none⟩) 368 368)).run Tryz.prog w = .ok (.string (M.mk 368 F)) w := cells_text fun _ hj => h.flash hj
end Go.Proofs.YtjfmiomopfjecabGreat

/- slotskeep's small functions on nets. -/
namespace Go.Proofs.YtjfmiomopfjecabGreat
open Go.RowKit

theorem kPick_any (c : Int) (n : Nat) (w : World) (h0 : -9223372036854775808 ≤ c) (h1 : c ≤ 9223372036854775807) (hn : 1 ≤ n) (hn2 : n ≤ 1000000) :
    Calls Tryz.prog 12 #[.int .i64 c, .int .i64 n] w fun e w' => e = .returned (.int .i64 (M.pk c n)) ∧ w = w' := by
  by_cases hc : c < 0
  · have HE : Hid ((M.pk c n : Int) = -(c + 1) % (n : Int)) := by
      show ((M.pk c n : Nat) : Int) = _
      unfold M.pk
      rw [if_pos hc, Int.toNat_of_nonneg (Int.emod_nonneg _ (by omega))]
    go_enter Tryz.func12, Tryz.ntmps12
    go_wp2
    go_ret
    exact ⟨ret_int (by rw [HE.out, ← Int.neg_tmod, Int.tmod_eq_emod_of_nonneg (by omega)]), rfl⟩
  · have HE : Hid ((M.pk c n : Int) = c % (n : Int)) := by
      show ((M.pk c n : Nat) : Int) = _
      unfold M.pk
      rw [if_neg hc, Int.toNat_of_nonneg (Int.emod_nonneg _ (by omega))]
    go_enter Tryz.func12, Tryz.ntmps12
    go_wp2
    go_ret
    exact ⟨ret_int HE.out.symm, rfl⟩

/-- the first n bytes, or all -/
def fstT (s : ByteArray) (n : Nat) : ByteArray := M.bytesOf (M.fillL s (min n s.size))
theorem fstT_cut {s : ByteArray} {n : Nat} (h : n < s.size) : s.extract 0 n = fstT s n := by
  unfold fstT
  rw [Nat.min_eq_left (by omega)]
  conv => lhs; rw [M.bytesOf_bz s, M.bytesOf_extract]
  congr 1
  unfold M.fillL
  rw [List.drop_zero, ← List.map_take, List.take_range]
  congr 2
  omega
theorem fstT_all {s : ByteArray} {n : Nat} (h : ¬ n < s.size) : s = fstT s n := by
  unfold fstT
  rw [Nat.min_eq_right (by omega)]
  exact M.bytesOf_bz s
theorem fstT_size (s : ByteArray) (n : Nat) : (fstT s n).size = min n s.size := by
  unfold fstT
  rw [M.bytesOf_size, M.fillL_length]
theorem fstT_bz (s : ByteArray) (n i : Nat) (h : i < n) : M.bz (fstT s n) i = M.bz s i := by
  unfold fstT
  rw [M.bz_bytesOf (M.fillL_all _ _)]
  by_cases hi : i < s.size
  · rw [M.fillL_getD _ _ _ (by omega)]
  · rw [M.bz_out s i (by omega), List.getD_eq_getElem?_getD, List.getElem?_eq_none (by rw [M.fillL_length]; omega)]
    rfl
theorem kFirst_any (s : ByteArray) (n : Nat) (w : World) (_hs : s.size ≤ maxLen) (hn : n ≤ 1000000) :
    Calls Tryz.prog 42 #[.string s, .int .i64 n] w fun e w' => e = .returned (.string (fstT s n)) ∧ w = w' := by
  unfold maxLen at _hs
  by_cases h : n < s.size
  · have HE := hide (fstT_cut h)
    go_enter Tryz.func42, Tryz.ntmps42
    go_wp2
    go_ret
    exact ⟨ret_string HE.out, rfl⟩
  · have HE := hide (fstT_all h)
    go_enter Tryz.func42, Tryz.ntmps42
    go_wp2
    go_ret
    exact ⟨ret_string HE.out, rfl⟩

theorem oneRun (w : World) (v : Nat) :
    (convert 79 9 (.slice (some ⟨w.heap.size, 0, none⟩) 1 1)).run Tryz.prog (w.alloc (.cells #[.int .u8 (v : Int)] 5)) =
      .ok (.string (M.bytesOf [v])) (w.alloc (.cells #[.int .u8 (v : Int)] 5)) := by
  have h := text_run w [(v : Int)] 1 rfl
  simpa [M.bytesOf] using h
theorem kOne_any (v : Nat) (w : World) (hv : v ≤ 255) :
    Calls Tryz.prog 40 #[.int .i64 v] w fun e w' => e = .returned (.string (M.bytesOf [v])) ∧ Below w.heap.size w w' := by
  have hr := oneRun w v
  have ha : bits BinOp.and IntKind.i64 (v : Int) 255 = (v : Int) := by
    have e := M.and_i64 v 255 (by omega) (by omega)
    refine Eq.trans e ?_
    rw [show (255 : Nat) = 2 ^ 8 - 1 from rfl, Nat.and_two_pow_sub_one_eq_mod, Nat.mod_eq_of_lt (by omega)]
  go_enter Tryz.func40, Tryz.ntmps40
  go_wp2
  go_ret
  exact ⟨rfl, (Below.refl _ _).alloc (Nat.le_refl _) _⟩

theorem nul_bytes : (⟨#[0]⟩ : ByteArray) = M.bytesOf [0] := rfl
theorem kFill_any (s : ByteArray) (n : Nat) (w : World) (hs : s.size ≤ maxLen) (hn : n ≤ 1000) :
    Calls Tryz.prog 58 #[.string s, .int .i64 n] w fun e w' => e = .returned (.string (M.bytesOf (M.fillL s n))) ∧ w = w' := by
  go_enter Tryz.func58, Tryz.ntmps58
  go_wp2_with fail
  refine (kFirst_any s n _ hs (by omega)).mono ?_
  rintro e w' ⟨rfl, rfl⟩
  have H0 : Hid (fstT s n = M.bytesOf (M.fillL s (min n s.size))) := rfl
  have hz := fstT_size s n
  generalize fstT s n = t0 at *
  have hz1 : t0.size ≤ n := by omega
  have HZ := hide hz
  clear hz
  go_wp2_with fail
  go_loop [5] (fun v => ∃ (k : Nat) (t : ByteArray), min n s.size ≤ k ∧ k ≤ n ∧ v = .string t ∧ Hid (t = M.bytesOf (M.fillL s k)) ∧ k ≤ t.size ∧ t.size ≤ k) (fun v => match v with | .string t => n - t.size | _ => 0)
  case atStart => exact ⟨min n s.size, t0, Nat.le_refl _, by omega, rfl, H0, by rw [HZ.out]; exact Nat.le_refl _, by rw [HZ.out]; exact Nat.le_refl _⟩
  case round =>
    obtain ⟨k, t, hk0, hk, rfl, ht, ht1, ht2⟩ := hrel
    by_cases hlt : k < n
    · have HS : Hid (t ++ ⟨#[0]⟩ = M.bytesOf (M.fillL s (k + 1))) := by
        rw [M.fillL_succ, ← M.bytesOf_append, ← ht.out, M.bz_out s k (by omega), nul_bytes]; rfl
      have HL : Hid ((t ++ (⟨#[0]⟩ : ByteArray)).size = k + 1) := by
        rw [HS.out, M.bytesOf_size, M.fillL_length]; rfl
      go_wp2
      go_round
      case rel => exact ⟨k + 1, _, by omega, by omega, rfl, HS, Nat.le_of_eq HL.out.symm, Nat.le_of_eq HL.out⟩
      case measure => show n - (t ++ (⟨#[0]⟩ : ByteArray)).size < n - t.size; rw [HL.out]; omega
    · have hkn : k = n := by omega
      subst hkn
      go_wp2
      go_ret
      exact ⟨ret_string ht.out, rfl⟩

/-- what a node of kind op makes of x and y (for Const nothing is promised) -/
def doesV (op : Nat) (x y : Int) (b : Nat) : Int := if op = 6 then x / 2 ^ b else if op = 0 then M.mx x 0 else M.nodeDo op x y 0 0
end Go.Proofs.YtjfmiomopfjecabGreat

/- The small functions of patches: a part of a text, rows of bytes as texts, the steps of a patch. -/
namespace Go.Proofs.YtjfmiomopfjecabGreat
open Go.RowKit Go.Lib

theorem ret_part {a b : ByteArray} {c d : Bool} (h1 : a = b) (h2 : c = d) : Ending.returned (.tuple #[.string a, .bool c]) = .returned (.tuple #[.string b, .bool d]) := by rw [h1, h2]

theorem part_yes (s : ByteArray) (a n : Nat) (w : World) (hs : s.size ≤ 2000000) (h : a + n ≤ s.size) :
    Calls Tryz.prog 96 #[.string s, .int .i64 a, .int .i64 n] w fun e w' => e = .returned (.tuple #[.string (M.mk n fun j => M.bz s (a + j)), .bool true]) ∧ w = w' := by
  have HE := hide (M.extract_mk s a n h)
  have h1 : ¬ (s.size : Int) < (a : Int) := by omega
  have h3 : ¬ (s.size : Int) - (a : Int) < (n : Int) := by omega
  have h2 : ((a : Int) + (n : Int)).toNat = a + n := by omega
  go_enter Tryz.func96, Tryz.ntmps96
  go_wp2
  go_ret2
  exact ⟨ret_part HE.out rfl, rfl⟩
theorem part_no (s : ByteArray) (a n : Nat) (w : World) (_hs : s.size ≤ 2000000) (_ha : a ≤ 4000000) (hn : n ≤ 4000000) (h : s.size < a + n) :
    Calls Tryz.prog 96 #[.string s, .int .i64 a, .int .i64 n] w fun e w' => e = .returned (.tuple #[.string ⟨#[]⟩, .bool false]) ∧ w = w' := by
  by_cases h0 : s.size < a
  · have h1 : (s.size : Int) < (a : Int) := by omega
    go_enter Tryz.func96, Tryz.ntmps96
    go_wp2
    go_ret2
    exact ⟨rfl, rfl⟩
  · have h1 : ¬ (s.size : Int) < (a : Int) := by omega
    have h2 : (s.size : Int) - (a : Int) < (n : Int) := by omega
    go_enter Tryz.func96, Tryz.ntmps96
    go_wp2
    go_ret2
    exact ⟨rfl, rfl⟩
theorem taken_yes (s : ByteArray) (a n : Nat) (w : World) (hs : s.size ≤ 2000000) (h : a + n ≤ s.size) :
    Calls Tryz.prog 203 #[.string s, .int .i64 a, .int .i64 n] w fun e w' => e = .returned (.tuple #[.string (M.mk n fun j => M.bz s (a + j)), .bool true]) ∧ w = w' := by
  have HE := hide (M.extract_mk s a n h)
  have h1 : ¬ (s.size : Int) < (a : Int) + (n : Int) := by omega
  have h2 : ((a : Int) + (n : Int)).toNat = a + n := by omega
  go_enter Tryz.func203, Tryz.ntmps203
  go_wp2
  go_ret2
  exact ⟨ret_part HE.out rfl, rfl⟩
theorem taken_no (s : ByteArray) (a n : Int) (w : World) (hs : s.size ≤ 2000000) (ha : -1 ≤ a) (ha' : a ≤ 4000000) (hn : -1 ≤ n) (hn' : n ≤ 4000000) (h : a < 0 ∨ n < 0 ∨ (s.size : Int) < a + n) :
    Calls Tryz.prog 203 #[.string s, .int .i64 a, .int .i64 n] w fun e w' => e = .returned (.tuple #[.string ⟨#[]⟩, .bool false]) ∧ w = w' := by
  by_cases h1 : a < 0
  · clear h
    go_enter Tryz.func203, Tryz.ntmps203
    go_wp2
    go_ret2
    exact ⟨rfl, rfl⟩
  · by_cases h2 : n < 0
    · clear h
      go_enter Tryz.func203, Tryz.ntmps203
      go_wp2
      go_ret2
      exact ⟨rfl, rfl⟩
    · have h3 : (s.size : Int) < a + n := by omega
      clear h
      go_enter Tryz.func203, Tryz.ntmps203
      go_wp2
      go_ret2
      exact ⟨rfl, rfl⟩

/- rows of bytes -/
theorem strCells_append (a b : ByteArray) : strCells (a ++ b) = strCells a ++ strCells b := by
  unfold strCells
  rw [ByteArray.data_append, Array.toList_append, List.map_append]
theorem row_text (w : World) (v : Value) (base : Nat) (o : ByteArray) (h : w.ownsRow base 5 1 v o.size (strCells o)) :
    (convert 79 9 v).run Tryz.prog w = .ok (.string o) w := by
  have hc := fun g => h.cells (g := g)
  rcases h.2 with ⟨rfl, hn⟩ | ⟨g, cap, cur, rfl, hb, hg, h1, h2, h3, h4⟩
  · have : o = ⟨#[]⟩ := M.bz_ext (by rw [hn]; rfl) (fun j hj => by omega)
    subst this
    rw [run_convert_bytes_string _ 79 9 5 _ 0 0 Tryz.underlying79 Tryz.underlying5 Tryz.underlying9]
    rfl
  · have e : strCells o = (o.data.toList.map fun b => (b.toNat : Int)).map (Value.int .u8) := by
      unfold strCells; rw [List.map_map]; rfl
    have hl : (loadCells ⟨g, 0, none⟩ o.size).run Tryz.prog w = .ok ((o.data.toList.map fun b => (b.toNat : Int)).map (Value.int .u8)).toArray w := by
      have h5 := run_loadCells_list (P := Tryz.prog) (w := w) ⟨g, 0, none⟩ (strCells o) (hc g rfl)
      rw [strCells_length, e] at h5
      exact h5
    rw [run_convert_bytes_string _ 79 9 5 _ _ _ Tryz.underlying79 Tryz.underlying5 Tryz.underlying9, run_bytesToString _ _ _ _ _ hl]
    have e2 : ∀ (l : List UInt8) (r : ByteArray), (l.map fun b => (b.toNat : Int)).foldl (fun r n => r.push (UInt8.ofNat n.toNat)) r = ⟨(r.data.toList ++ l).toArray⟩ := by
      intro l
      induction l with
      | nil => intro r; simp
      | cons x l ih => intro r; rw [List.map_cons, List.foldl_cons, ih]; simp [ByteArray.push]
    rw [e2]
    rfl

theorem infoB : (Tryz.prog.info? 5).map (fun i => (i.zero, i.size, i.bytes)) = some (some (.int .u8 0), 1, 1) := by kernel_rfl
theorem append_text {ops : Array Oper} {rest : List Oper} {o : Oper} {a : Act} {Q : Exit → Act → World → Prop} (w : World) (hgd : o.guard = none) (s x : Operand)
    (ho : o.op = .call { callee := .builtin .append, args := #[s, x], argTypes := #[79, 9] })
    (base : Nat) (v : Value) (l t : ByteArray) (hs : a.eval s = v) (hx : a.eval x = .string t)
    (hown : w.ownsRow base 5 1 v l.size (strCells l)) (hn : l.size + t.size ≤ 1000000000) (hbase : base ≤ w.heap.size)
    (h : ∀ v' w', w'.ownsRow base 5 1 v' (l ++ t).size (strCells (l ++ t)) → (∀ w0, Below base w0 w → Below base w0 w') → w.heap.size ≤ w'.heap.size → wpList Tryz.prog ops Q rest (a.put o.dst v') w') :
    wpList Tryz.prog ops Q (o :: rest) a w := by
  obtain ⟨i0, hi, hz0, hz1, hz2⟩ := info_parts infoB
  refine wpList_append_own_string w hgd s x 79 9 ho base 5 i0 Tryz.underlying79 Tryz.underlying9 hi hz0 hz1 hz2 v l.size (strCells l) hs hown t hx (by unfold maxLen; omega) (by omega) hbase ?_
  intro v' w' hown' hgrow _
  refine h v' w' ?_ (fun w0 hb0 => hb0.grown hgrow hbase (fun k hk => (hown.lt k hk).1)) hgrow.size
  rw [ByteArray.size_append, strCells_append]
  exact hown'
theorem byte_cells {y : Nat} (hy : y < 256) : strCells (M.bytesOf [y]) = [.int .u8 (y : Int)] := by
  show [Value.int .u8 ((UInt8.ofNat y).toNat : Int)] = _
  rw [UInt8.toNat_ofNat', Nat.mod_eq_of_lt (by omega)]
theorem append_byte {ops : Array Oper} {rest : List Oper} {o : Oper} {a : Act} {Q : Exit → Act → World → Prop} (W : World) (hgd : o.guard = none) (s x : Operand)
    (ho : o.op = .call { callee := .builtin .append, args := #[s, x], argTypes := #[79, 79] })
    (base : Nat) (v : Value) (l : ByteArray) (y g : Nat) (hy : y < 256) (hs : a.eval s = v) (hx : a.eval x = .slice (some ⟨g, 0, none⟩) 1 1) (hc : W.cell? ⟨g, 0, none⟩ = some (.int .u8 (y : Int)))
    (hown : W.ownsRow base 5 1 v l.size (strCells l)) (hn : l.size + 1 ≤ 1000000) (hbase : base ≤ W.heap.size)
    (h : ∀ v' w', w'.ownsRow base 5 1 v' (l ++ M.bytesOf [y]).size (strCells (l ++ M.bytesOf [y])) → (∀ w0, Below base w0 W → Below base w0 w') → W.heap.size ≤ w'.heap.size → wpList Tryz.prog ops Q rest (a.put o.dst v') w') :
    wpList Tryz.prog ops Q (o :: rest) a W := by
  obtain ⟨i0, hi, hz0, hz1, hz2⟩ := info_parts infoB
  refine wpList_append_own W hgd s x 79 ho base 5 i0 (.int .u8 0) 1 1 Tryz.underlying79 hi hz0 hz1 hz2 rfl (by decide) v l.size (strCells l) hs hown ⟨g, 0, none⟩ 1 1 [.int .u8 (y : Int)] hx rfl ?_ ?_ (by unfold maxLen; omega) (by omega) hbase ?_
  · intro j u hj
    match j, hj with
    | 0, hj => simp at hj; subst hj; rw [add_at]; exact hc
  · intro u hu; simp at hu; subst hu; rfl
  · intro v' w' hown' hgrow _
    refine h v' w' ?_ (fun w0 hb0 => hb0.grown hgrow hbase (fun k hk => (hown.lt k hk).1)) hgrow.size
    rw [ByteArray.size_append, strCells_append, byte_cells hy]
    exact hown'

theorem repeated_any (x n : Nat) (w : World) (hn : n ≤ 255) :
    Calls Tryz.prog 208 #[.string (M.bytesOf [x]), .int .i64 n] w fun e w' => e = .returned (.string (M.mk n fun _ => x)) ∧ Below w.heap.size w w' := by
  have HX := hide (show (M.bytesOf [x]).size = 1 from rfl)
  have HST := hide (fun k => M.mk_succ k fun _ => x)
  generalize M.bytesOf [x] = t at *
  go_enter Tryz.func208, Tryz.ntmps208
  go_wp2_with fail
  go_loopw [5, 6] (fun v i wr => ∃ (k : Nat) (o : ByteArray), k ≤ n ∧ i = .int .i64 k ∧ Hid (o = M.mk k fun _ => x) ∧ wr.ownsRow w.heap.size 5 1 v o.size (strCells o) ∧ Below w.heap.size w wr) (fun _ i _ => n - (intOf i).toNat)
  case atStart => exact ⟨0, ⟨#[]⟩, by omega, rfl, rfl, World.ownsRow_nil _ _ _ _, Below.refl _ _⟩
  case round =>
    obtain ⟨k, o, hk, rfl, ho, hown, hbel⟩ := hrel
    have hsz := hbel.size
    have HZ : Hid (o.size = k) := by rw [ho.out, M.mk_size]; rfl
    by_cases hlt : k < n
    · have HO := hide hown
      have HB := hide hbel
      have HS : Hid (o ++ t = M.mk (k + 1) fun _ => x) := by rw [HST.out k, ← ho.out]; rfl
      clear hown hbel
      go_wp2_with (at_builtin; (refine append_text _ rfl (.tmp 12) (.tmp 13) rfl w.heap.size u5 o t rfl rfl (unhide HO) (by rw [HX.out, HZ.out]; omega) hsz ?_); intro v' w1 hown1 hbel1 hsz1)
      have HR := hide hown1
      have HB1 := hide (hbel1 _ (unhide HB))
      clear hown1 hbel1
      go_roundw
      case rel => exact ⟨k + 1, _, by omega, by go_num, HS, unhide HR, unhide HB1⟩
      case measure => simp [intOf]; omega
    · have hkn : k = n := by omega
      subst hkn
      have hr := row_text _ _ _ _ hown
      have HB := hide hbel
      clear hown hbel
      go_wp2
      go_ret
      exact ⟨ret_string ho.out, unhide HB⟩
end Go.Proofs.YtjfmiomopfjecabGreat

/- The steps of a patch: added, fits, gives, read. -/
namespace Go.Proofs.YtjfmiomopfjecabGreat
open Go.RowKit Go.Lib

theorem wordByte_nat (s : ByteArray) (i : Nat) (w : World) (hs : s.size ≤ maxLen) :
    Calls Tryz.prog 100 #[.string s, .int .i64 i] w fun e w' => e = .returned (.int .i64 (M.bz s i)) ∧ w = w' := by
  have h := wordByte_any s (i : Int) w hs (by omega)
  rw [Int.toNat_natCast] at h
  exact h
set_option maxRecDepth 10000 in
theorem added_any (s t : ByteArray) (n : Nat) (w : World) (hs : s.size = n) (ht : t.size = n) (hn : n ≤ 255) :
    Calls Tryz.prog 209 #[.string s, .string t] w fun e w' => e = .returned (.string (M.mk n fun j => (M.bz s j + M.bz t j) % 256)) ∧ Below w.heap.size w w' := by
  have hs1 : s.size ≤ n := by omega
  have hs2 : n ≤ s.size := by omega
  have HT := hide (show t.size ≤ maxLen by unfold maxLen; omega)
  clear hs ht
  go_enter Tryz.func209, Tryz.ntmps209
  go_wp2_with fail
  go_loopw [5, 6] (fun v i wr => ∃ (k : Nat) (o : ByteArray), k ≤ n ∧ i = .int .i64 k ∧ Hid (o = M.mk k fun j => (M.bz s j + M.bz t j) % 256) ∧ wr.ownsRow w.heap.size 5 1 v o.size (strCells o) ∧ Below w.heap.size w wr) (fun _ i _ => n - (intOf i).toNat)
  case atStart => exact ⟨0, ⟨#[]⟩, by omega, rfl, rfl, World.ownsRow_nil _ _ _ _, Below.refl _ _⟩
  case round =>
    obtain ⟨k, o, hk, rfl, ho, hown, hbel⟩ := hrel
    have hsz := hbel.size
    have HZ : Hid (o.size = k) := by rw [ho.out, M.mk_size]; rfl
    by_cases hlt : k < n
    · have HO := hide hown
      have HB := hide hbel
      have p0 : k < s.size := by omega
      have hi0 : (k : Int) < (s.size : Int) := by omega
      have HS : Hid (o ++ M.bytesOf [((s[k]'p0).toNat + M.bz t k) % 256] = M.mk (k + 1) fun j => (M.bz s j + M.bz t j) % 256) := by
        rw [M.mk_succ, ← ho.out, M.bz_at s k p0]; rfl
      have b0 : (s[k]'p0).toNat < 256 := UInt8.toNat_lt _
      have b1 := M.bz_lt t k
      have hwb0 : IntKind.i64.wrap ((s[k]'p0).toNat : Int) = ((s[k]'p0).toNat : Int) := IntWalk.i64_in _ ⟨by omega, by omega⟩
      have hwsum : IntKind.i64.wrap (((s[k]'p0).toNat : Int) + (M.bz t k : Int)) = ((s[k]'p0).toNat : Int) + (M.bz t k : Int) := IntWalk.i64_in _ ⟨by omega, by omega⟩
      clear hown hbel
      go_wp2_with fail
      go_region_held3 (fun _ => True) (first | trivial | (intros; trivial)) ((go_at_call 100; refine (wordByte_nat t k _ (unhide HT)).mono ?_; rintro e w' ⟨rfl, rfl⟩))
      all_goals
        generalize (s[k]'p0).toNat = x at *
        generalize M.bz t k = y at *
        clear hwsum hwb0
        have hmod : ((x : Int) + (y : Int)) % 256 = ((x + y) % 256 : Nat) := by omega
        have HM := hide hmod
        clear hmod
        go_wp2_with (at_builtin; (refine append_byte _ rfl (.tmp 22) (.tmp 26) rfl w.heap.size u5 o ((x + y) % 256) wr.heap.size (by omega) rfl rfl (by rw [← HM.out]; simp) (by first | exact ((unhide HO).alloc _).drew | exact (unhide HO).drew.alloc _) (by rw [HZ.out]; omega) (by simp; omega) ?_); intro v' w1 hown1 hbel1 hsz1)
        have HR : Hid (w1.ownsRow w.heap.size 5 1 v' (M.mk (k + 1) fun j => (M.bz s j + M.bz t j) % 256).size (strCells (M.mk (k + 1) fun j => (M.bz s j + M.bz t j) % 256))) := by rw [← HS.out]; exact hown1
        have HB1 := hide (hbel1 w (by first | exact ((unhide HB).alloc hsz _).drew | exact (unhide HB).drew.alloc hsz _))
        clear hown1 hbel1
        go_wp2
        go_roundw
        case rel => exact ⟨k + 1, _, by omega, by go_num, rfl, unhide HR, unhide HB1⟩
        case measure => simp [intOf]; omega
    · have hkn : k = n := by omega
      subst hkn
      have hr := row_text _ _ _ _ hown
      have HB := hide hbel
      clear hown hbel
      go_wp2
      go_ret
      exact ⟨ret_string ho.out, unhide HB⟩

theorem fits_base (what at_ count : Nat) (t b : ByteArray) (w : World) (hw : what = 0 ∨ what = 3) (ha : at_ < 256) (hc : count < 256) (_hb : b.size ≤ 2000000) :
    Calls Tryz.prog 207 #[.agg #[.int .i64 what, .int .i64 at_, .int .i64 count, .string t], .string b] w fun e w' => e = .returned (.bool (decide (at_ + count ≤ b.size))) ∧ Below w.heap.size w w' := by
  have HE : Hid (decide ((at_ : Int) + (count : Int) ≤ (b.size : Int)) = decide (at_ + count ≤ b.size)) := by
    show _ = _
    rw [decide_eq_decide]; omega
  rcases hw with rfl | rfl
  · go_enter Tryz.func207, Tryz.ntmps207
    go_wp2
    go_ret
    exact ⟨ret_bool HE.out, (Below.refl _ _).alloc (Nat.le_refl _) _⟩
  · go_enter Tryz.func207, Tryz.ntmps207
    go_wp2
    go_ret
    exact ⟨ret_bool HE.out, (Below.refl _ _).alloc (Nat.le_refl _) _⟩
theorem fits_own (what at_ count : Nat) (t b : ByteArray) (w : World) (hw : what = 1 ∨ what = 2) :
    Calls Tryz.prog 207 #[.agg #[.int .i64 what, .int .i64 at_, .int .i64 count, .string t], .string b] w fun e w' => e = .returned (.bool true) ∧ Below w.heap.size w w' := by
  rcases hw with rfl | rfl
  · go_enter Tryz.func207, Tryz.ntmps207
    go_wp2
    go_ret
    exact ⟨rfl, (Below.refl _ _).alloc (Nat.le_refl _) _⟩
  · go_enter Tryz.func207, Tryz.ntmps207
    go_wp2
    go_ret
    exact ⟨rfl, (Below.refl _ _).alloc (Nat.le_refl _) _⟩
end Go.Proofs.YtjfmiomopfjecabGreat

/- Pages of the flash: what is read, and what is written. -/
namespace Go.Proofs.YtjfmiomopfjecabGreat
open Go.RowKit Go.Lib

theorem wordByte_at (s : ByteArray) (k : Int) (i : Nat) (w : World) (hs : s.size ≤ maxLen) (hk : k = i) :
    Calls Tryz.prog 100 #[.string s, .int .i64 k] w fun e w' => e = .returned (.int .i64 (M.bz s i)) ∧ w = w' := by
  subst hk
  exact wordByte_nat s i w hs
theorem wordNumber_any (s : ByteArray) (k : Int) (i : Nat) (w : World) (hs : s.size ≤ maxLen) (hk : k = i) (hi : i ≤ 1000000) :
    Calls Tryz.prog 175 #[.string s, .int .i64 k] w fun e w' => e = .returned (.int .i64 (M.bz s i * 256 + M.bz s (i + 1) : Nat)) ∧ w = w' := by
  subst hk
  have HL := hide hs
  have b0 := M.bz_lt s i
  have b1 := M.bz_lt s (i + 1)
  go_enter Tryz.func175, Tryz.ntmps175
  go_wp2_with fail
  refine (wordByte_at s _ i _ (unhide HL) rfl).mono ?_
  rintro e w' ⟨rfl, rfl⟩
  generalize hx : M.bz s i = x at *
  have HX := hide hx
  clear hx
  go_wp2_with fail
  refine (wordByte_at s _ (i + 1) _ (unhide HL) (by omega)).mono ?_
  rintro e w' ⟨rfl, rfl⟩
  generalize hy : M.bz s (i + 1) = y at *
  have HY := hide hy
  clear hy
  go_wp2
  go_ret
  exact ⟨ret_int (by rw [HX.out, HY.out]; omega), rfl⟩
set_option maxRecDepth 10000 in
theorem padded_any (s : ByteArray) (f n : Nat) (k : Int) (w : World) (hs : s.size ≤ maxLen) (hf : f ≤ 100000) (hn : n ≤ 1000) (hk : k = f) :
    Calls Tryz.prog 104 #[.string s, .int .i64 k, .int .i64 n] w fun e w' => e = .returned (.string (M.mk n fun j => M.bz s (f + j))) ∧ Below w.heap.size w w' := by
  subst hk
  have HL := hide hs
  go_enter Tryz.func104, Tryz.ntmps104
  go_wp2_with fail
  go_loopw [7, 8] (fun v i wr => ∃ (k : Nat) (o : ByteArray), k ≤ n ∧ i = .int .i64 k ∧ Hid (o = M.mk k fun j => M.bz s (f + j)) ∧ wr.ownsRow w.heap.size 5 1 v o.size (strCells o) ∧ Below w.heap.size w wr) (fun _ i _ => n - (intOf i).toNat)
  case atStart => exact ⟨0, ⟨#[]⟩, by omega, rfl, rfl, World.ownsRow_nil _ _ _ _, Below.refl _ _⟩
  case round =>
    obtain ⟨k, o, hk, rfl, ho, hown, hbel⟩ := hrel
    have hsz := hbel.size
    have HZ : Hid (o.size = k) := by rw [ho.out, M.mk_size]; rfl
    by_cases hlt : k < n
    · have HO := hide hown
      have HB := hide hbel
      have HS : Hid (o ++ M.bytesOf [M.bz s (f + k)] = M.mk (k + 1) fun j => M.bz s (f + j)) := by
        rw [M.mk_succ, ← ho.out]; rfl
      have b1 := M.bz_lt s (f + k)
      clear hown hbel
      go_wp2_with fail
      refine (wordByte_at s _ (f + k) _ (unhide HL) (by omega)).mono ?_
      rintro e w' ⟨rfl, rfl⟩
      generalize M.bz s (f + k) = y at *
      go_wp2_with (at_builtin; (refine append_byte _ rfl (.tmp 14) (.tmp 21) rfl w.heap.size u7 o y wr.heap.size (by omega) rfl rfl (by simp) ((unhide HO).alloc _) (by rw [HZ.out]; omega) (by simp; omega) ?_); intro v' w1 hown1 hbel1 hsz1)
      have HR : Hid (w1.ownsRow w.heap.size 5 1 v' (M.mk (k + 1) fun j => M.bz s (f + j)).size (strCells (M.mk (k + 1) fun j => M.bz s (f + j)))) := by rw [← HS.out]; exact hown1
      have HB1 := hide (hbel1 w ((unhide HB).alloc hsz _))
      clear hown1 hbel1
      go_roundw
      case rel => exact ⟨k + 1, _, by omega, by go_num, rfl, unhide HR, unhide HB1⟩
      case measure => simp [intOf]; omega
    · have hkn : k = n := by omega
      subst hkn
      have hr := row_text _ _ _ _ hown
      have HB := hide hbel
      clear hown hbel
      go_wp2
      go_ret
      exact ⟨ret_string ho.out, unhide HB⟩
theorem needed_any (n : Nat) (w : World) (hn : n ≤ 1000000) :
    Calls Tryz.prog 73 #[.int .i64 n] w fun e w' => e = .returned (.int .i64 (M.chunksN n)) ∧ w = w' := by
  have HE := hide (show M.chunksN n = (n + 15) / 16 from rfl)
  go_enter Tryz.func73, Tryz.ntmps73
  go_wp2
  go_ret
  exact ⟨ret_int (by rw [HE.out]; omega), rfl⟩

/- what is to be written, as it lies in memory -/
abbrev GW := Nat × ByteArray
def gwCells (l : List GW) : List Value := l.flatMap fun a => [.int .i64 (a.1 : Int), .string a.2]
theorem gwCells_snoc (l : List GW) (a : GW) : gwCells (l ++ [a]) = gwCells l ++ [.int .i64 (a.1 : Int), .string a.2] := by simp [gwCells]
theorem gwCells_length (l : List GW) : (gwCells l).length = 2 * l.length := by
  induction l with
  | nil => rfl
  | cons a l ih => simp [gwCells] at ih ⊢; omega
theorem gwCells_at {l : List GW} {i : Nat} (h : i < l.length) : (gwCells l)[2 * i]? = some (.int .i64 ((l[i]).1 : Int)) ∧ (gwCells l)[2 * i + 1]? = some (.string (l[i]).2) := by
  induction l generalizing i with
  | nil => simp at h
  | cons a l ih =>
    have e : gwCells (a :: l) = .int .i64 (a.1 : Int) :: .string a.2 :: gwCells l := by simp [gwCells]
    rw [e]
    cases i with
    | zero => simp
    | succ i =>
      have := ih (i := i) (by simpa using h)
      rw [show 2 * (i + 1) = 2 * i + 1 + 1 from by omega]
      simpa using this
def gwOf (a : GW) : M.Wr := (a.1, M.bz a.2)
theorem infoW : (Tryz.prog.info? 136).map (fun i => (i.zero, i.size, i.bytes)) = some (some (.agg #[.int .i64 0, .string ⟨#[]⟩]), 2, 24) := by kernel_rfl
theorem append_write {ops : Array Oper} {rest : List Oper} {o : Oper} {a : Act} {Q : Exit → Act → World → Prop} (w : World) (hgd : o.guard = none) (s x : Operand)
    (ho : o.op = .call { callee := .builtin .append, args := #[s, x], argTypes := #[127, 127] })
    (base : Nat) (v : Value) (l : List GW) (p : Int) (y : GW) (hs : a.eval s = v) (hx : a.eval x = .slice (some ⟨w.heap.size, 0, none⟩) 1 1) (hp : p = y.1)
    (hown : w.ownsRow base 136 2 v l.length (gwCells l)) (hn : l.length + 1 ≤ 1000000) (hbase : base ≤ w.heap.size)
    (h : ∀ v' w', w'.ownsRow base 136 2 v' (l ++ [y]).length (gwCells (l ++ [y])) → (∀ w0, Below base w0 w → Below base w0 w') → w.heap.size ≤ w'.heap.size → wpList Tryz.prog ops Q rest (a.put o.dst v') w') :
    wpList Tryz.prog ops Q (o :: rest) a (w.alloc (.cells #[.int .i64 p, .string y.2] 136)) := by
  subst hp
  obtain ⟨i0, hi, hz0, hz1, hz2⟩ := info_parts infoW
  refine append_one w hgd s x 127 ho base 136 i0 _ 2 24 Tryz.underlying127 hi hz0 hz1 hz2 rfl (by decide) v l.length (gwCells l) hs hown [.int .i64 (y.1 : Int), .string y.2] rfl hx ?_ hn (by omega) hbase ?_
  · intro u hu
    simp only [List.mem_cons, List.not_mem_nil, or_false] at hu
    rcases hu with rfl | rfl <;> rfl
  · intro v' w' a b c
    refine h v' w' ?_ b c
    rw [List.length_append, gwCells_snoc]
    exact a
/-- a text laid into n pages -/
def spreadG (first n : Nat) (s : ByteArray) : List GW := (List.range n).map fun i => (first + i, M.mk 16 fun j => M.bz s (16 * i + j))
theorem spreadG_succ (first n : Nat) (s : ByteArray) : spreadG first (n + 1) s = spreadG first n s ++ [(first + n, M.mk 16 fun j => M.bz s (16 * n + j))] := by
  unfold spreadG; rw [List.range_succ, List.map_append]; rfl
theorem spreadG_length (first n : Nat) (s : ByteArray) : (spreadG first n s).length = n := by simp [spreadG]
set_option maxRecDepth 10000 in
theorem spread_any (first n : Nat) (s : ByteArray) (w : World) (hs : s.size ≤ maxLen) (hf : first ≤ 1000) (hn : n ≤ 1000) :
    Calls Tryz.prog 71 #[.int .i64 first, .int .i64 n, .string s] w fun e w' => ∃ v, e = .returned v ∧ w'.ownsRow w.heap.size 136 2 v n (gwCells (spreadG first n s)) ∧ Below w.heap.size w w' := by
  have HL := hide hs
  go_enter Tryz.func71, Tryz.ntmps71
  go_wp2_with fail
  go_loopw [7, 8] (fun v i wr => ∃ k : Nat, k ≤ n ∧ i = .int .i64 k ∧ wr.ownsRow w.heap.size 136 2 v (spreadG first k s).length (gwCells (spreadG first k s)) ∧ Below w.heap.size w wr) (fun _ i _ => n - (intOf i).toNat)
  case atStart => exact ⟨0, by omega, rfl, World.ownsRow_nil _ _ _ _, Below.refl _ _⟩
  case round =>
    obtain ⟨k, hk, rfl, hown, hbel⟩ := hrel
    have hsz := hbel.size
    have HN := hide (spreadG_length first k s)
    by_cases hlt : k < n
    · have HO := hide hown
      have HB := hide hbel
      have HS := hide (spreadG_succ first k s)
      clear hown hbel
      go_wp2_with fail
      refine (padded_any s (16 * k) 16 _ _ (unhide HL) (by omega) (by omega) (by omega)).mono ?_
      rintro e w1 ⟨rfl, hb1⟩
      generalize hy : (M.mk 16 fun j => M.bz s (16 * k + j)) = y at *
      have HY := hide hy
      have hsz1 := hb1.size
      have HO1 := hide (ownsRow_below (unhide HO) hb1)
      have HB1 := hide ((unhide HB).trans (hb1.mono hsz))
      clear hy hb1
      go_wp2_with (at_builtin; (refine append_write _ rfl (.tmp 19) (.tmp 25) rfl w.heap.size u7 (spreadG first k s) _ (first + k, y) rfl rfl (by omega) (unhide HO1) (by rw [HN.out]; omega) (by omega) ?_); intro v' w2 hown2 hbel2 hsz2)
      have HR : Hid (w2.ownsRow w.heap.size 136 2 v' (spreadG first (k + 1) s).length (gwCells (spreadG first (k + 1) s))) := by rw [HS.out]; exact hown2
      have HB2 := hide (hbel2 w (unhide HB1))
      clear hown2 hbel2
      go_roundw
      case rel => exact ⟨k + 1, by omega, by go_num, unhide HR, unhide HB2⟩
      case measure => simp [intOf]; omega
    · have hkn : k = n := by omega
      subst hkn
      have HO : Hid (wr.ownsRow w.heap.size 136 2 u7 k (gwCells (spreadG first k s))) := by
        have := hown; rw [HN.out] at this; exact this
      have HB := hide hbel
      clear hown hbel
      go_wp2
      go_ret
      exact ⟨_, rfl, unhide HO, unhide HB⟩
end Go.Proofs.YtjfmiomopfjecabGreat

/- A step of a patch: what it gives, and how it is read. -/
namespace Go.Proofs.YtjfmiomopfjecabGreat
open Go.RowKit Go.Lib

def opHead (p : ByteArray) (i : Nat) : Nat := if M.bz p i = 0 then 3 else if M.bz p i = 1 then 2 else if M.bz p i = 2 then 2 else 3
def opAt (p : ByteArray) (i : Nat) : Nat := if M.bz p i = 0 then M.bz p (i + 1) else if M.bz p i = 1 then 0 else if M.bz p i = 2 then 0 else M.bz p (i + 1)
def opOwn (p : ByteArray) (i : Nat) : ByteArray := M.mk (M.opLen p i - opHead p i) fun j => M.bz p (i + opHead p i + j)
def stepV (p : ByteArray) (i : Nat) : Value := .agg #[.int .i64 (M.bz p i), .int .i64 (opAt p i), .int .i64 (M.opCount p i), .string (opOwn p i)]
def stepNo : Value := .agg #[.int .i64 0, .int .i64 0, .int .i64 0, .string ⟨#[]⟩]
theorem ret_step {a b c d : Int} {a' b' c' d' : Int} {t t' : ByteArray} (h1 : a = a') (h2 : b = b') (h3 : c = c') (h4 : t = t') (h5 : d = d') :
    Ending.returned (.tuple #[.agg #[.int .i64 a, .int .i64 b, .int .i64 c, .string t], .int .i64 d, .bool true]) = .returned (.tuple #[.agg #[.int .i64 a', .int .i64 b', .int .i64 c', .string t'], .int .i64 d', .bool true]) := by rw [h1, h2, h3, h4, h5]

/-- what a step that is there and fits gives -/
theorem gives_any (b p : ByteArray) (i : Nat) (w : World) (hb : b.size ≤ 2000000) (hok : M.opOk b p i = true) :
    Calls Tryz.prog 206 #[stepV p i, .string b] w fun e w' => e = .returned (.string (M.opGives b p i)) ∧ Below w.heap.size w w' := by
  have h3 := M.opOk_what hok
  have b1 := M.bz_lt p (i + 1)
  have b2 := M.bz_lt p (i + 2)
  have hcase : M.bz p i = 0 ∨ M.bz p i = 1 ∨ M.bz p i = 2 ∨ M.bz p i = 3 := by omega
  unfold stepV
  rcases hcase with h0 | h0 | h0 | h0
  · have hf : M.bz p (i + 1) + M.bz p (i + 2) ≤ b.size := by
      simp only [M.opOk, M.opFits, h0, Bool.and_eq_true, decide_true, Bool.true_or, Bool.not_true, Bool.false_or, decide_eq_true_eq] at hok
      exact hok.2
    have e1 : opAt p i = M.bz p (i + 1) := by simp [opAt, h0]
    have e2 : M.opCount p i = M.bz p (i + 2) := by simp [M.opCount, h0]
    have HG : Hid ((M.mk (M.bz p (i + 2)) fun j => M.bz b (M.bz p (i + 1) + j)) = M.opGives b p i) := by
      show _ = M.mk (M.opCount p i) (M.opByte b p i)
      rw [e2]
      exact M.mk_congr fun j _ => by simp [M.opByte, h0]
    rw [e1, e2, h0]
    clear hok h0 e1 e2
    generalize M.opGives b p i = G at *
    generalize opOwn p i = t at *
    generalize M.bz p (i + 1) = x at *
    generalize M.bz p (i + 2) = y at *
    go_enter Tryz.func206, Tryz.ntmps206
    go_wp2_with fail
    refine (part_yes b x y _ hb hf).mono ?_
    rintro e w' ⟨rfl, rfl⟩
    rw [HG.out]
    go_wp2
    go_ret
    exact ⟨rfl, (Below.refl _ _).alloc (Nat.le_refl _) _⟩
  · have e2 : M.opCount p i = M.bz p (i + 1) := by simp [M.opCount, h0]
    have e3 : M.opLen p i - opHead p i = M.bz p (i + 1) := by simp [M.opLen, opHead, h0]
    have e4 : opHead p i = 2 := by simp [opHead, h0]
    have HG : Hid (opOwn p i = M.opGives b p i) := by
      show M.mk _ _ = M.mk (M.opCount p i) (M.opByte b p i)
      rw [e2, e3]
      exact M.mk_congr fun j _ => by simp [M.opByte, h0, e4]
    rw [h0]
    clear hok h0 e2 e3 e4
    generalize M.opGives b p i = G at *
    generalize opOwn p i = t at *
    generalize opAt p i = x at *
    generalize M.opCount p i = y at *
    go_enter Tryz.func206, Tryz.ntmps206
    go_wp2
    go_ret
    exact ⟨ret_string HG.out, (Below.refl _ _).alloc (Nat.le_refl _) _⟩
  · have e2 : M.opCount p i = M.bz p (i + 1) := by simp [M.opCount, h0]
    have e3 : M.opLen p i - opHead p i = 1 := by simp [M.opLen, opHead, h0]
    have e4 : opHead p i = 2 := by simp [opHead, h0]
    have HG : Hid ((M.mk (M.bz p (i + 1)) fun _ => M.bz p (i + 2)) = M.opGives b p i) := by
      show _ = M.mk (M.opCount p i) (M.opByte b p i)
      rw [e2]
      exact M.mk_congr fun j _ => by simp [M.opByte, h0]
    have e5 : opOwn p i = M.bytesOf [M.bz p (i + 2)] := by
      unfold opOwn
      rw [e3, e4]; rfl
    rw [e2, e5, h0]
    clear hok h0 e2 e3 e4 e5
    generalize M.opGives b p i = G at *
    generalize opAt p i = u at *
    generalize M.bz p (i + 1) = x at *
    generalize M.bz p (i + 2) = y at *
    go_enter Tryz.func206, Tryz.ntmps206
    go_wp2_with fail
    refine (repeated_any y x _ (by omega)).mono ?_
    rintro e w' ⟨rfl, hb1⟩
    rw [HG.out]
    have HB : Hid (Below w.heap.size w w') := ((Below.refl _ _).alloc (Nat.le_refl _) _).trans (hb1.mono (by simp))
    clear hb1
    go_wp2
    go_ret
    exact ⟨rfl, unhide HB⟩
  · have hf : M.bz p (i + 1) + M.bz p (i + 2) ≤ b.size := by
      simp only [M.opOk, M.opFits, h0, Bool.and_eq_true, decide_true, Bool.or_true, Bool.not_true, Bool.false_or, decide_eq_true_eq] at hok
      exact hok.2
    have e1 : opAt p i = M.bz p (i + 1) := by simp [opAt, h0]
    have e2 : M.opCount p i = M.bz p (i + 2) := by simp [M.opCount, h0]
    have e3 : M.opLen p i - opHead p i = M.bz p (i + 2) := by simp [M.opLen, opHead, h0]
    have e4 : opHead p i = 3 := by simp [opHead, h0]
    have e5 : opOwn p i = M.mk (M.bz p (i + 2)) fun j => M.bz p (i + 3 + j) := by
      unfold opOwn
      rw [e3, e4]
    have HG : Hid ((M.mk (M.bz p (i + 2)) fun j => (M.bz (M.mk (M.bz p (i + 2)) fun j => M.bz b (M.bz p (i + 1) + j)) j + M.bz (M.mk (M.bz p (i + 2)) fun j => M.bz p (i + 3 + j)) j) % 256) = M.opGives b p i) := by
      show _ = M.mk (M.opCount p i) (M.opByte b p i)
      rw [e2]
      refine M.mk_congr fun j hj => ?_
      rw [M.bz_mk (fun _ _ => M.bz_lt _ _) hj, M.bz_mk (fun _ _ => M.bz_lt _ _) hj]
      simp [M.opByte, h0]
    have z2 := M.mk_size (M.bz p (i + 2)) fun j => M.bz p (i + 3 + j)
    have z1 := M.mk_size (M.bz p (i + 2)) fun j => M.bz b (M.bz p (i + 1) + j)
    rw [e1, e2, e5, h0]
    clear hok h0 e1 e2 e3 e4 e5
    generalize M.opGives b p i = G at *
    generalize (M.mk (M.bz p (i + 2)) fun j => M.bz p (i + 3 + j)) = t at *
    generalize M.bz p (i + 1) = x at *
    generalize M.bz p (i + 2) = y at *
    have Z1 := hide z1
    have Z2 := hide z2
    clear z1 z2
    go_enter Tryz.func206, Tryz.ntmps206
    go_wp2_with fail
    refine (part_yes b x y _ hb hf).mono ?_
    rintro e w' ⟨rfl, rfl⟩
    generalize (M.mk y fun j => M.bz b (x + j)) = r at *
    go_wp2_with fail
    refine (added_any r t y _ (unhide Z1) (unhide Z2) (by omega)).mono ?_
    rintro e w' ⟨rfl, hb1⟩
    rw [HG.out]
    have HB : Hid (Below w.heap.size w w') := ((Below.refl _ _).alloc (Nat.le_refl _) _).trans (hb1.mono (by simp))
    clear hb1
    go_wp2
    go_ret
    exact ⟨rfl, unhide HB⟩
end Go.Proofs.YtjfmiomopfjecabGreat

/- A step that is read. -/
namespace Go.Proofs.YtjfmiomopfjecabGreat
open Go.RowKit Go.Lib

theorem there_iff (p : ByteArray) (i : Nat) (h : M.bz p i ≤ 3) : M.opThere p i = decide (i + M.opLen p i ≤ p.size) := by
  unfold M.opThere
  rw [decide_eq_true h, Bool.true_and]
theorem part_yes_at (s : ByteArray) (k c : Int) (a n : Nat) (w : World) (hs : s.size ≤ 2000000) (h : a + n ≤ s.size) (hk : k = a) (hc : c = n) :
    Calls Tryz.prog 96 #[.string s, .int .i64 k, .int .i64 c] w fun e w' => e = .returned (.tuple #[.string (M.mk n fun j => M.bz s (a + j)), .bool true]) ∧ w = w' := by
  subst hk hc
  exact part_yes s a n w hs h
theorem part_no_at (s : ByteArray) (k c : Int) (a n : Nat) (w : World) (hs : s.size ≤ 2000000) (ha : a ≤ 4000000) (hn : n ≤ 4000000) (h : s.size < a + n) (hk : k = a) (hc : c = n) :
    Calls Tryz.prog 96 #[.string s, .int .i64 k, .int .i64 c] w fun e w' => e = .returned (.tuple #[.string ⟨#[]⟩, .bool false]) ∧ w = w' := by
  subst hk hc
  exact part_no s a n w hs ha hn h
theorem two_new (w : World) (a b : Obj) : Below w.heap.size w ((w.alloc a).alloc b) := ((Below.refl _ _).alloc (Nat.le_refl _) _).alloc (by simp) _

def Reads (p : ByteArray) (i : Nat) (w : World) (e : Ending) (w' : World) : Prop :=
  (M.opThere p i = true → e = .returned (.tuple #[stepV p i, .int .i64 (i + M.opLen p i : Nat), .bool true])) ∧
  (M.opThere p i = false → e = .returned (.tuple #[stepNo, .int .i64 0, .bool false])) ∧ Below w.heap.size w w'
theorem reads_yes {p : ByteArray} {i : Nat} {w w' : World} {v : Value} {k : Int} (h : M.opThere p i = true) (hv : stepV p i = v) (hk : k = (i + M.opLen p i : Nat)) (hb : Below w.heap.size w w') : Reads p i w (.returned (.tuple #[v, .int .i64 k, .bool true])) w' :=
  ⟨fun _ => by rw [hv, hk], ⟨fun h' => absurd (h.symm.trans h') (by decide), hb⟩⟩
theorem reads_no {p : ByteArray} {i : Nat} {w w' : World} (h : M.opThere p i = false) (hb : Below w.heap.size w w') : Reads p i w (.returned (.tuple #[stepNo, .int .i64 0, .bool false])) w' :=
  ⟨fun h' => absurd (h.symm.trans h') (by decide), ⟨fun _ => rfl, hb⟩⟩
theorem read_zero (p : ByteArray) (i : Nat) (w : World) (hp : p.size ≤ 2000000) (hi : i < p.size) (h0 : M.bz p i = 0) :
    Calls Tryz.prog 205 #[.string p, .int .i64 i] w fun e w' => Reads p i w e w' := by
  have hpm : p.size ≤ maxLen := by unfold maxLen; omega
  have b1 := M.bz_lt p (i + 1)
  have b2 := M.bz_lt p (i + 2)
  have hl : M.opLen p i = 3 := by simp [M.opLen, h0]
  have HT := hide (there_iff p i (by omega))
  have HV : Hid (stepV p i = .agg #[.int .i64 (0 : Nat), .int .i64 (M.bz p (i + 1) : Nat), .int .i64 (M.bz p (i + 2) : Nat), .string (M.mk 0 fun j => M.bz p (i + 3 + j))]) := by
    show stepV p i = _
    unfold stepV opOwn
    simp [h0, hl, opAt, M.opCount, opHead]
  have HL := hide hl
  rw [hl] at HT
  have hl' : i + M.opLen p i = i + (3) := by rw [hl]
  clear hl hl'
  go_enter Tryz.func205, Tryz.ntmps205
  go_wp2_with fail
  refine (wordByte_nat p i _ hpm).mono ?_
  rintro e w' ⟨rfl, rfl⟩
  rw [h0]
  clear h0
  go_wp2_with fail
  refine (wordByte_at p _ (i + 1) _ hpm (by omega)).mono ?_
  rintro e w' ⟨rfl, rfl⟩
  generalize M.bz p (i + 1) = x at *
  go_wp2_with fail
  refine (wordByte_at p _ (i + 2) _ hpm (by omega)).mono ?_
  rintro e w' ⟨rfl, rfl⟩
  generalize M.bz p (i + 2) = y at *
  by_cases hq : i + 3 + 0 ≤ p.size
  · have HY : Hid (M.opThere p i = true) := by rw [HT.out]; exact decide_eq_true (by omega)
    go_wp2_with fail
    refine (part_yes_at p _ _ (i + 3) 0 _ hp hq (by omega) (by omega)).mono ?_
    rintro e w' ⟨rfl, rfl⟩
    generalize (M.mk 0 fun j => M.bz p (i + 3 + j)) = t at *
    go_wp2
    refine bodyPost_ret (v := .tuple #[.agg #[.int .i64 (0 : Nat), .int .i64 (x : Nat), .int .i64 y, .string t], .int .i64 _, .bool true]) (by simp [results, Tryz.results205, go_sem]; rfl) rfl ?_
    exact reads_yes (unhide HY) HV.out (by rw [HL.out]; omega) (two_new _ _ _)
  · have HY : Hid (M.opThere p i = false) := by rw [HT.out]; exact decide_eq_false (by omega)
    go_wp2_with fail
    refine (part_no_at p _ _ (i + 3) 0 _ hp (by omega) (by omega) (by omega) (by omega) (by omega)).mono ?_
    rintro e w' ⟨rfl, rfl⟩
    go_wp2
    refine bodyPost_ret (v := .tuple #[stepNo, .int .i64 0, .bool false]) (by simp [results, Tryz.results205, go_sem, stepNo]) rfl ?_
    exact reads_no (unhide HY) (two_new _ _ _)
theorem read_one (p : ByteArray) (i : Nat) (w : World) (hp : p.size ≤ 2000000) (hi : i < p.size) (h0 : M.bz p i = 1) :
    Calls Tryz.prog 205 #[.string p, .int .i64 i] w fun e w' => Reads p i w e w' := by
  have hpm : p.size ≤ maxLen := by unfold maxLen; omega
  have b1 := M.bz_lt p (i + 1)
  have b2 := M.bz_lt p (i + 2)
  have hl : M.opLen p i = 2 + M.bz p (i + 1) := by simp [M.opLen, h0]
  have HT := hide (there_iff p i (by omega))
  have HV : Hid (stepV p i = .agg #[.int .i64 (1 : Nat), .int .i64 (0 : Nat), .int .i64 (M.bz p (i + 1) : Nat), .string (M.mk (M.bz p (i + 1)) fun j => M.bz p (i + 2 + j))]) := by
    show stepV p i = _
    unfold stepV opOwn
    simp [h0, hl, opAt, M.opCount, opHead]
  have HL := hide hl
  rw [hl] at HT
  have hl' : i + M.opLen p i = i + (2 + M.bz p (i + 1)) := by rw [hl]
  clear hl hl'
  go_enter Tryz.func205, Tryz.ntmps205
  go_wp2_with fail
  refine (wordByte_nat p i _ hpm).mono ?_
  rintro e w' ⟨rfl, rfl⟩
  rw [h0]
  clear h0
  go_wp2_with fail
  refine (wordByte_at p _ (i + 1) _ hpm (by omega)).mono ?_
  rintro e w' ⟨rfl, rfl⟩
  generalize M.bz p (i + 1) = x at *
  by_cases hq : i + 2 + x ≤ p.size
  · have HY : Hid (M.opThere p i = true) := by rw [HT.out]; exact decide_eq_true (by omega)
    go_wp2_with fail
    refine (part_yes_at p _ _ (i + 2) x _ hp hq (by omega) (by omega)).mono ?_
    rintro e w' ⟨rfl, rfl⟩
    generalize (M.mk x fun j => M.bz p (i + 2 + j)) = t at *
    go_wp2
    refine bodyPost_ret (v := .tuple #[.agg #[.int .i64 (1 : Nat), .int .i64 (0 : Nat), .int .i64 x, .string t], .int .i64 _, .bool true]) (by simp [results, Tryz.results205, go_sem]; rfl) rfl ?_
    exact reads_yes (unhide HY) HV.out (by rw [HL.out]; omega) (two_new _ _ _)
  · have HY : Hid (M.opThere p i = false) := by rw [HT.out]; exact decide_eq_false (by omega)
    go_wp2_with fail
    refine (part_no_at p _ _ (i + 2) x _ hp (by omega) (by omega) (by omega) (by omega) (by omega)).mono ?_
    rintro e w' ⟨rfl, rfl⟩
    go_wp2
    refine bodyPost_ret (v := .tuple #[stepNo, .int .i64 0, .bool false]) (by simp [results, Tryz.results205, go_sem, stepNo]) rfl ?_
    exact reads_no (unhide HY) (two_new _ _ _)
theorem read_two (p : ByteArray) (i : Nat) (w : World) (hp : p.size ≤ 2000000) (hi : i < p.size) (h0 : M.bz p i = 2) :
    Calls Tryz.prog 205 #[.string p, .int .i64 i] w fun e w' => Reads p i w e w' := by
  have hpm : p.size ≤ maxLen := by unfold maxLen; omega
  have b1 := M.bz_lt p (i + 1)
  have b2 := M.bz_lt p (i + 2)
  have hl : M.opLen p i = 3 := by simp [M.opLen, h0]
  have HT := hide (there_iff p i (by omega))
  have HV : Hid (stepV p i = .agg #[.int .i64 (2 : Nat), .int .i64 (0 : Nat), .int .i64 (M.bz p (i + 1) : Nat), .string (M.mk 1 fun j => M.bz p (i + 2 + j))]) := by
    show stepV p i = _
    unfold stepV opOwn
    simp [h0, hl, opAt, M.opCount, opHead]
  have HL := hide hl
  rw [hl] at HT
  have hl' : i + M.opLen p i = i + (3) := by rw [hl]
  clear hl hl'
  go_enter Tryz.func205, Tryz.ntmps205
  go_wp2_with fail
  refine (wordByte_nat p i _ hpm).mono ?_
  rintro e w' ⟨rfl, rfl⟩
  rw [h0]
  clear h0
  go_wp2_with fail
  refine (wordByte_at p _ (i + 1) _ hpm (by omega)).mono ?_
  rintro e w' ⟨rfl, rfl⟩
  generalize M.bz p (i + 1) = x at *
  by_cases hq : i + 2 + 1 ≤ p.size
  · have HY : Hid (M.opThere p i = true) := by rw [HT.out]; exact decide_eq_true (by omega)
    go_wp2_with fail
    refine (part_yes_at p _ _ (i + 2) 1 _ hp hq (by omega) (by omega)).mono ?_
    rintro e w' ⟨rfl, rfl⟩
    generalize (M.mk 1 fun j => M.bz p (i + 2 + j)) = t at *
    go_wp2
    refine bodyPost_ret (v := .tuple #[.agg #[.int .i64 (2 : Nat), .int .i64 (0 : Nat), .int .i64 x, .string t], .int .i64 _, .bool true]) (by simp [results, Tryz.results205, go_sem]; rfl) rfl ?_
    exact reads_yes (unhide HY) HV.out (by rw [HL.out]; omega) (two_new _ _ _)
  · have HY : Hid (M.opThere p i = false) := by rw [HT.out]; exact decide_eq_false (by omega)
    go_wp2_with fail
    refine (part_no_at p _ _ (i + 2) 1 _ hp (by omega) (by omega) (by omega) (by omega) (by omega)).mono ?_
    rintro e w' ⟨rfl, rfl⟩
    go_wp2
    refine bodyPost_ret (v := .tuple #[stepNo, .int .i64 0, .bool false]) (by simp [results, Tryz.results205, go_sem, stepNo]) rfl ?_
    exact reads_no (unhide HY) (two_new _ _ _)
theorem read_three (p : ByteArray) (i : Nat) (w : World) (hp : p.size ≤ 2000000) (hi : i < p.size) (h0 : M.bz p i = 3) :
    Calls Tryz.prog 205 #[.string p, .int .i64 i] w fun e w' => Reads p i w e w' := by
  have hpm : p.size ≤ maxLen := by unfold maxLen; omega
  have b1 := M.bz_lt p (i + 1)
  have b2 := M.bz_lt p (i + 2)
  have hl : M.opLen p i = 3 + M.bz p (i + 2) := by simp [M.opLen, h0]
  have HT := hide (there_iff p i (by omega))
  have HV : Hid (stepV p i = .agg #[.int .i64 (3 : Nat), .int .i64 (M.bz p (i + 1) : Nat), .int .i64 (M.bz p (i + 2) : Nat), .string (M.mk (M.bz p (i + 2)) fun j => M.bz p (i + 3 + j))]) := by
    show stepV p i = _
    unfold stepV opOwn
    simp [h0, hl, opAt, M.opCount, opHead]
  have HL := hide hl
  rw [hl] at HT
  have hl' : i + M.opLen p i = i + (3 + M.bz p (i + 2)) := by rw [hl]
  clear hl hl'
  go_enter Tryz.func205, Tryz.ntmps205
  go_wp2_with fail
  refine (wordByte_nat p i _ hpm).mono ?_
  rintro e w' ⟨rfl, rfl⟩
  rw [h0]
  clear h0
  go_wp2_with fail
  refine (wordByte_at p _ (i + 1) _ hpm (by omega)).mono ?_
  rintro e w' ⟨rfl, rfl⟩
  generalize M.bz p (i + 1) = x at *
  go_wp2_with fail
  refine (wordByte_at p _ (i + 2) _ hpm (by omega)).mono ?_
  rintro e w' ⟨rfl, rfl⟩
  generalize M.bz p (i + 2) = y at *
  by_cases hq : i + 3 + y ≤ p.size
  · have HY : Hid (M.opThere p i = true) := by rw [HT.out]; exact decide_eq_true (by omega)
    go_wp2_with fail
    refine (part_yes_at p _ _ (i + 3) y _ hp hq (by omega) (by omega)).mono ?_
    rintro e w' ⟨rfl, rfl⟩
    generalize (M.mk y fun j => M.bz p (i + 3 + j)) = t at *
    go_wp2
    refine bodyPost_ret (v := .tuple #[.agg #[.int .i64 (3 : Nat), .int .i64 (x : Nat), .int .i64 y, .string t], .int .i64 _, .bool true]) (by simp [results, Tryz.results205, go_sem]; rfl) rfl ?_
    exact reads_yes (unhide HY) HV.out (by rw [HL.out]; omega) (two_new _ _ _)
  · have HY : Hid (M.opThere p i = false) := by rw [HT.out]; exact decide_eq_false (by omega)
    go_wp2_with fail
    refine (part_no_at p _ _ (i + 3) y _ hp (by omega) (by omega) (by omega) (by omega) (by omega)).mono ?_
    rintro e w' ⟨rfl, rfl⟩
    go_wp2
    refine bodyPost_ret (v := .tuple #[stepNo, .int .i64 0, .bool false]) (by simp [results, Tryz.results205, go_sem, stepNo]) rfl ?_
    exact reads_no (unhide HY) (two_new _ _ _)
theorem read_more (p : ByteArray) (i : Nat) (w : World) (hp : p.size ≤ 2000000) (hi : i < p.size) (h0 : 3 < M.bz p i) :
    Calls Tryz.prog 205 #[.string p, .int .i64 i] w fun e w' => Reads p i w e w' := by
  have hpm : p.size ≤ maxLen := by unfold maxLen; omega
  have b0 := M.bz_lt p i
  have b1 := M.bz_lt p (i + 1)
  have HY : Hid (M.opThere p i = false) := by
    show M.opThere p i = false
    unfold M.opThere
    rw [decide_eq_false (by omega), Bool.false_and]
  go_enter Tryz.func205, Tryz.ntmps205
  go_wp2_with fail
  refine (wordByte_nat p i _ hpm).mono ?_
  rintro e w' ⟨rfl, rfl⟩
  generalize M.bz p i = z at *
  have k0 : ((z : Int) == 0) = false := by rw [beq_eq_false_iff_ne]; omega
  have k1 : ((z : Int) == 1) = false := by rw [beq_eq_false_iff_ne]; omega
  have k2 : ((z : Int) == 2) = false := by rw [beq_eq_false_iff_ne]; omega
  have k3 : ((z : Int) == 3) = false := by rw [beq_eq_false_iff_ne]; omega
  go_wp2_with fail
  refine (wordByte_at p _ (i + 1) _ hpm (by omega)).mono ?_
  rintro e w' ⟨rfl, rfl⟩
  generalize M.bz p (i + 1) = x at *
  go_wp2
  refine bodyPost_ret (v := .tuple #[stepNo, .int .i64 0, .bool false]) (by simp [results, Tryz.results205, go_sem, stepNo]) rfl ?_
  exact reads_no (unhide HY) (two_new _ _ _)
theorem read_any (p : ByteArray) (i : Nat) (w : World) (hp : p.size ≤ 2000000) (hi : i < p.size) :
    Calls Tryz.prog 205 #[.string p, .int .i64 i] w fun e w' => Reads p i w e w' := by
  by_cases h0 : M.bz p i = 0
  · exact read_zero p i w hp hi h0
  by_cases h1 : M.bz p i = 1
  · exact read_one p i w hp hi h1
  by_cases h2 : M.bz p i = 2
  · exact read_two p i w hp hi h2
  by_cases h3 : M.bz p i = 3
  · exact read_three p i w hp hi h3
  exact read_more p i w hp hi (by omega)
end Go.Proofs.YtjfmiomopfjecabGreat

/- Texts laid together: PatchLeaf, PatchStep, FlashLeaf, PatchRead, PatchTake, FlashPut, RecLeaf, RecMore, RecText, RecThen, RefLeaf, SumRef, RefSeal, RefMan, RefPlan, ManMath. -/
import Derived.Test.YtjfmiomopfjecabGreatAb
import Derived.Test.YtjfmiomopfjecabGreatAa
import Derived.Lib.AppendStr
import Derived.BigQuiet
import Derived.Deep.RegionHeld3
/- The small functions of patches: a part of a text, rows of bytes as texts, the steps of a patch. -/
namespace Go.Proofs.YtjfmiomopfjecabGreat
open Go.RowKit Go.Lib

theorem ret_part {a b : ByteArray} {c d : Bool} (h1 : a = b) (h2 : c = d) : Ending.returned (.tuple #[.string a, .bool c]) = .returned (.tuple #[.string b, .bool d]) := by rw [h1, h2]

theorem part_yes (s : ByteArray) (a n : Nat) (w : World) (hs : s.size ≤ 2000000) (h : a + n ≤ s.size) :
    Calls Tryz.prog 96 #[.string s, .int .i64 a, .int .i64 n] w fun e w' => e = .returned (.tuple #[.string (M.mk n fun j => M.bz s (a + j)), .bool true]) ∧ w = w' := by
  have HE := hide (M.extract_mk s a n h)
  have h1 : ¬ (s.size : Int) < (a : Int) := by omega
  have h3 : ¬ (s.size : Int) - (a : Int) < (n : Int) := by omega
  have h2 : ((a : Int) + (n : Int)).toNat = a + n := by omega
  go_enter Tryz.func96, Tryz.ntmps96
  go_wp2
  go_ret2
  exact ⟨ret_part HE.out rfl, rfl⟩
theorem part_no (s : ByteArray) (a n : Nat) (w : World) (_hs : s.size ≤ 2000000) (_ha : a ≤ 4000000) (hn : n ≤ 4000000) (h : s.size < a + n) :
    Calls Tryz.prog 96 #[.string s, .int .i64 a, .int .i64 n] w fun e w' => e = .returned (.tuple #[.string ⟨#[]⟩, .bool false]) ∧ w = w' := by
  by_cases h0 : s.size < a
  · have h1 : (s.size : Int) < (a : Int) := by omega
    go_enter Tryz.func96, Tryz.ntmps96
    go_wp2
    go_ret2
    exact ⟨rfl, rfl⟩
  · have h1 : ¬ (s.size : Int) < (a : Int) := by omega
    have h2 : (s.size : Int) - (a : Int) < (n : Int) := by omega
    go_enter Tryz.func96, Tryz.ntmps96
    go_wp2
    go_ret2
    exact ⟨rfl, rfl⟩
theorem taken_yes (s : ByteArray) (a n : Nat) (w : World) (hs : s.size ≤ 2000000) (h : a + n ≤ s.size) :
    Calls Tryz.prog 203 #[.string s, .int .i64 a, .int .i64 n] w fun e w' => e = .returned (.tuple #[.string (M.mk n fun j => M.bz s (a + j)), .bool true]) ∧ w = w' := by
  have HE := hide (M.extract_mk s a n h)
  have h1 : ¬ (s.size : Int) < (a : Int) + (n : Int) := by omega
  have h2 : ((a : Int) + (n : Int)).toNat = a + n := by omega
  go_enter Tryz.func203, Tryz.ntmps203
  go_wp2
  go_ret2
  exact ⟨ret_part HE.out rfl, rfl⟩
theorem taken_no (s : ByteArray) (a n : Int) (w : World) (hs : s.size ≤ 2000000) (ha : -1 ≤ a) (ha' : a ≤ 4000000) (hn : -1 ≤ n) (hn' : n ≤ 4000000) (h : a < 0 ∨ n < 0 ∨ (s.size : Int) < a + n) :
    Calls Tryz.prog 203 #[.string s, .int .i64 a, .int .i64 n] w fun e w' => e = .returned (.tuple #[.string ⟨#[]⟩, .bool false]) ∧ w = w' := by
  by_cases h1 : a < 0
  · clear h
    go_enter Tryz.func203, Tryz.ntmps203
    go_wp2
    go_ret2
    exact ⟨rfl, rfl⟩
  · by_cases h2 : n < 0
    · clear h
      go_enter Tryz.func203, Tryz.ntmps203
      go_wp2
      go_ret2
      exact ⟨rfl, rfl⟩
    · have h3 : (s.size : Int) < a + n := by omega
      clear h
      go_enter Tryz.func203, Tryz.ntmps203
      go_wp2
      go_ret2
      exact ⟨rfl, rfl⟩

/- rows of bytes -/
theorem strCells_append (a b : ByteArray) : strCells (a ++ b) = strCells a ++ strCells b := by
  unfold strCells
  rw [ByteArray.data_append, Array.toList_append, List.map_append]
theorem row_text (w : World) (v : Value) (base : Nat) (o : ByteArray) (h : w.ownsRow base 5 1 v o.size (strCells o)) :
    (convert 79 9 v).run Tryz.prog w = .ok (.string o) w := by
  have hc := fun g => h.cells (g := g)
  rcases h.2 with ⟨rfl, hn⟩ | ⟨g, cap, cur, rfl, hb, hg, h1, h2, h3, h4⟩
  · have : o = ⟨#[]⟩ := M.bz_ext (by rw [hn]; rfl) (fun j hj => by omega)
    subst this
    rw [run_convert_bytes_string _ 79 9 5 _ 0 0 Tryz.underlying79 Tryz.underlying5 Tryz.underlying9]
    rfl
  · have e : strCells o = (o.data.toList.map fun b => (b.toNat : Int)).map (Value.int .u8) := by
      unfold strCells; rw [List.map_map]; rfl
    have hl : (loadCells ⟨g, 0, none⟩ o.size).run Tryz.prog w = .ok ((o.data.toList.map fun b => (b.toNat : Int)).map (Value.int .u8)).toArray w := by
      have h5 := run_loadCells_list (P := Tryz.prog) (w := w) ⟨g, 0, none⟩ (strCells o) (hc g rfl)
      rw [strCells_length, e] at h5
      exact h5
    rw [run_convert_bytes_string _ 79 9 5 _ _ _ Tryz.underlying79 Tryz.underlying5 Tryz.underlying9, run_bytesToString _ _ _ _ _ hl]
    have e2 : ∀ (l : List UInt8) (r : ByteArray), (l.map fun b => (b.toNat : Int)).foldl (fun r n => r.push (UInt8.ofNat n.toNat)) r = ⟨(r.data.toList ++ l).toArray⟩ := by
      intro l
      induction l with
      | nil => intro r; simp
      | cons x l ih => intro r; rw [List.map_cons, List.foldl_cons, ih]; simp [ByteArray.push]
    rw [e2]
    rfl

theorem infoB : (Tryz.prog.info? 5).map (fun i => (i.zero, i.size, i.bytes)) = some (some (.int .u8 0), 1, 1) := by kernel_rfl
theorem append_text {ops : Array Oper} {rest : List Oper} {o : Oper} {a : Act} {Q : Exit → Act → World → Prop} (w : World) (hgd : o.guard = none) (s x : Operand)
    (ho : o.op = .call { callee := .builtin .append, args := #[s, x], argTypes := #[79, 9] })
    (base : Nat) (v : Value) (l t : ByteArray) (hs : a.eval s = v) (hx : a.eval x = .string t)
    (hown : w.ownsRow base 5 1 v l.size (strCells l)) (hn : l.size + t.size ≤ 1000000000) (hbase : base ≤ w.heap.size)
    (h : ∀ v' w', w'.ownsRow base 5 1 v' (l ++ t).size (strCells (l ++ t)) → (∀ w0, Below base w0 w → Below base w0 w') → w.heap.size ≤ w'.heap.size → wpList Tryz.prog ops Q rest (a.put o.dst v') w') :
    wpList Tryz.prog ops Q (o :: rest) a w := by
  obtain ⟨i0, hi, hz0, hz1, hz2⟩ := info_parts infoB
  refine wpList_append_own_string w hgd s x 79 9 ho base 5 i0 Tryz.underlying79 Tryz.underlying9 hi hz0 hz1 hz2 v l.size (strCells l) hs hown t hx (by unfold maxLen; omega) (by omega) hbase ?_
  intro v' w' hown' hgrow _
  refine h v' w' ?_ (fun w0 hb0 => hb0.grown hgrow hbase (fun k hk => (hown.lt k hk).1)) hgrow.size
  rw [ByteArray.size_append, strCells_append]
  exact hown'
theorem byte_cells {y : Nat} (hy : y < 256) : strCells (M.bytesOf [y]) = [.int .u8 (y : Int)] := by
  show [Value.int .u8 ((UInt8.ofNat y).toNat : Int)] = _
  rw [UInt8.toNat_ofNat', Nat.mod_eq_of_lt (by omega)]
theorem append_byte {ops : Array Oper} {rest : List Oper} {o : Oper} {a : Act} {Q : Exit → Act → World → Prop} (W : World) (hgd : o.guard = none) (s x : Operand)
    (ho : o.op = .call { callee := .builtin .append, args := #[s, x], argTypes := #[79, 79] })
    (base : Nat) (v : Value) (l : ByteArray) (y g : Nat) (hy : y < 256) (hs : a.eval s = v) (hx : a.eval x = .slice (some ⟨g, 0, none⟩) 1 1) (hc : W.cell? ⟨g, 0, none⟩ = some (.int .u8 (y : Int)))
    (hown : W.ownsRow base 5 1 v l.size (strCells l)) (hn : l.size + 1 ≤ 1000000) (hbase : base ≤ W.heap.size)
    (h : ∀ v' w', w'.ownsRow base 5 1 v' (l ++ M.bytesOf [y]).size (strCells (l ++ M.bytesOf [y])) → (∀ w0, Below base w0 W → Below base w0 w') → W.heap.size ≤ w'.heap.size → wpList Tryz.prog ops Q rest (a.put o.dst v') w') :
    wpList Tryz.prog ops Q (o :: rest) a W := by
  obtain ⟨i0, hi, hz0, hz1, hz2⟩ := info_parts infoB
  refine wpList_append_own W hgd s x 79 ho base 5 i0 (.int .u8 0) 1 1 Tryz.underlying79 hi hz0 hz1 hz2 rfl (by decide) v l.size (strCells l) hs hown ⟨g, 0, none⟩ 1 1 [.int .u8 (y : Int)] hx rfl ?_ ?_ (by unfold maxLen; omega) (by omega) hbase ?_
  · intro j u hj
    match j, hj with
    | 0, hj => simp at hj; subst hj; rw [add_at]; exact hc
  · intro u hu; simp at hu; subst hu; rfl
  · intro v' w' hown' hgrow _
    refine h v' w' ?_ (fun w0 hb0 => hb0.grown hgrow hbase (fun k hk => (hown.lt k hk).1)) hgrow.size
    rw [ByteArray.size_append, strCells_append, byte_cells hy]
    exact hown'

theorem repeated_any (x n : Nat) (w : World) (hn : n ≤ 255) :
    Calls Tryz.prog 208 #[.string (M.bytesOf [x]), .int .i64 n] w fun e w' => e = .returned (.string (M.mk n fun _ => x)) ∧ Below w.heap.size w w' := by
  have HX := hide (show (M.bytesOf [x]).size = 1 from rfl)
  have HST := hide (fun k => M.mk_succ k fun _ => x)
  generalize M.bytesOf [x] = t at *
  go_enter Tryz.func208, Tryz.ntmps208
  go_wp2_with fail
  go_loopw [5, 6] (fun v i wr => ∃ (k : Nat) (o : ByteArray), k ≤ n ∧ i = .int .i64 k ∧ Hid (o = M.mk k fun _ => x) ∧ wr.ownsRow w.heap.size 5 1 v o.size (strCells o) ∧ Below w.heap.size w wr) (fun _ i _ => n - (intOf i).toNat)
  case atStart => exact ⟨0, ⟨#[]⟩, by omega, rfl, rfl, World.ownsRow_nil _ _ _ _, Below.refl _ _⟩
  case round =>
    obtain ⟨k, o, hk, rfl, ho, hown, hbel⟩ := hrel
    have hsz := hbel.size
    have HZ : Hid (o.size = k) := by rw [ho.out, M.mk_size]; rfl
    by_cases hlt : k < n
    · have HO := hide hown
      have HB := hide hbel
      have HS : Hid (o ++ t = M.mk (k + 1) fun _ => x) := by rw [HST.out k, ← ho.out]; rfl
      clear hown hbel
      go_wp2_with (at_builtin; (refine append_text _ rfl (.tmp 12) (.tmp 13) rfl w.heap.size u5 o t rfl rfl (unhide HO) (by rw [HX.out, HZ.out]; omega) hsz ?_); intro v' w1 hown1 hbel1 hsz1)
      have HR := hide hown1
      have HB1 := hide (hbel1 _ (unhide HB))
      clear hown1 hbel1
      go_roundw
      case rel => exact ⟨k + 1, _, by omega, by go_num, HS, unhide HR, unhide HB1⟩
      case measure => simp [intOf]; omega
    · have hkn : k = n := by omega
      subst hkn
      have hr := row_text _ _ _ _ hown
      have HB := hide hbel
      clear hown hbel
      go_wp2
      go_ret
      exact ⟨ret_string ho.out, unhide HB⟩
end Go.Proofs.YtjfmiomopfjecabGreat

/- The steps of a patch: added, fits, gives, read. -/
namespace Go.Proofs.YtjfmiomopfjecabGreat
open Go.RowKit Go.Lib

theorem wordByte_nat (s : ByteArray) (i : Nat) (w : World) (hs : s.size ≤ maxLen) :
    Calls Tryz.prog 100 #[.string s, .int .i64 i] w fun e w' => e = .returned (.int .i64 (M.bz s i)) ∧ w = w' := by
  have h := wordByte_any s (i : Int) w hs (by omega)
  rw [Int.toNat_natCast] at h
  exact h
set_option maxRecDepth 10000 in
theorem added_any (s t : ByteArray) (n : Nat) (w : World) (hs : s.size = n) (ht : t.size = n) (hn : n ≤ 255) :
    Calls Tryz.prog 209 #[.string s, .string t] w fun e w' => e = .returned (.string (M.mk n fun j => (M.bz s j + M.bz t j) % 256)) ∧ Below w.heap.size w w' := by
  have hs1 : s.size ≤ n := by omega
  have hs2 : n ≤ s.size := by omega
  have HT := hide (show t.size ≤ maxLen by unfold maxLen; omega)
  clear hs ht
  go_enter Tryz.func209, Tryz.ntmps209
  go_wp2_with fail
  go_loopw [5, 6] (fun v i wr => ∃ (k : Nat) (o : ByteArray), k ≤ n ∧ i = .int .i64 k ∧ Hid (o = M.mk k fun j => (M.bz s j + M.bz t j) % 256) ∧ wr.ownsRow w.heap.size 5 1 v o.size (strCells o) ∧ Below w.heap.size w wr) (fun _ i _ => n - (intOf i).toNat)
  case atStart => exact ⟨0, ⟨#[]⟩, by omega, rfl, rfl, World.ownsRow_nil _ _ _ _, Below.refl _ _⟩
  case round =>
    obtain ⟨k, o, hk, rfl, ho, hown, hbel⟩ := hrel
    have hsz := hbel.size
    have HZ : Hid (o.size = k) := by rw [ho.out, M.mk_size]; rfl
    by_cases hlt : k < n
    · have HO := hide hown
      have HB := hide hbel
      have p0 : k < s.size := by omega
      have hi0 : (k : Int) < (s.size : Int) := by omega
      have HS : Hid (o ++ M.bytesOf [((s[k]'p0).toNat + M.bz t k) % 256] = M.mk (k + 1) fun j => (M.bz s j + M.bz t j) % 256) := by
        rw [M.mk_succ, ← ho.out, M.bz_at s k p0]; rfl
      have b0 : (s[k]'p0).toNat < 256 := UInt8.toNat_lt _
      have b1 := M.bz_lt t k
      have hwb0 : IntKind.i64.wrap ((s[k]'p0).toNat : Int) = ((s[k]'p0).toNat : Int) := IntWalk.i64_in _ ⟨by omega, by omega⟩
      have hwsum : IntKind.i64.wrap (((s[k]'p0).toNat : Int) + (M.bz t k : Int)) = ((s[k]'p0).toNat : Int) + (M.bz t k : Int) := IntWalk.i64_in _ ⟨by omega, by omega⟩
      clear hown hbel
      go_wp2_with fail
      go_region_held3 (fun _ => True) (first | trivial | (intros; trivial)) ((go_at_call 100; refine (wordByte_nat t k _ (unhide HT)).mono ?_; rintro e w' ⟨rfl, rfl⟩))
      all_goals
        generalize (s[k]'p0).toNat = x at *
        generalize M.bz t k = y at *
        clear hwsum hwb0
        have hmod : ((x : Int) + (y : Int)) % 256 = ((x + y) % 256 : Nat) := by omega
        have HM := hide hmod
        clear hmod
        go_wp2_with (at_builtin; (refine append_byte _ rfl (.tmp 22) (.tmp 26) rfl w.heap.size u5 o ((x + y) % 256) wr.heap.size (by omega) rfl rfl (by rw [← HM.out]; simp) (by first | exact ((unhide HO).alloc _).drew | exact (unhide HO).drew.alloc _) (by rw [HZ.out]; omega) (by simp; omega) ?_); intro v' w1 hown1 hbel1 hsz1)
        have HR : Hid (w1.ownsRow w.heap.size 5 1 v' (M.mk (k + 1) fun j => (M.bz s j + M.bz t j) % 256).size (strCells (M.mk (k + 1) fun j => (M.bz s j + M.bz t j) % 256))) := by rw [← HS.out]; exact hown1
        have HB1 := hide (hbel1 w (by first | exact ((unhide HB).alloc hsz _).drew | exact (unhide HB).drew.alloc hsz _))
        clear hown1 hbel1
        go_wp2
        go_roundw
        case rel => exact ⟨k + 1, _, by omega, by go_num, rfl, unhide HR, unhide HB1⟩
        case measure => simp [intOf]; omega
    · have hkn : k = n := by omega
      subst hkn
      have hr := row_text _ _ _ _ hown
      have HB := hide hbel
      clear hown hbel
      go_wp2
      go_ret
      exact ⟨ret_string ho.out, unhide HB⟩

theorem fits_base (what at_ count : Nat) (t b : ByteArray) (w : World) (hw : what = 0 ∨ what = 3) (ha : at_ < 256) (hc : count < 256) (_hb : b.size ≤ 2000000) :
    Calls Tryz.prog 207 #[.agg #[.int .i64 what, .int .i64 at_, .int .i64 count, .string t], .string b] w fun e w' => e = .returned (.bool (decide (at_ + count ≤ b.size))) ∧ Below w.heap.size w w' := by
  have HE : Hid (decide ((at_ : Int) + (count : Int) ≤ (b.size : Int)) = decide (at_ + count ≤ b.size)) := by
    show _ = _
    rw [decide_eq_decide]; omega
  rcases hw with rfl | rfl
  · go_enter Tryz.func207, Tryz.ntmps207
    go_wp2
    go_ret
    exact ⟨ret_bool HE.out, (Below.refl _ _).alloc (Nat.le_refl _) _⟩
  · go_enter Tryz.func207, Tryz.ntmps207
    go_wp2
    go_ret
    exact ⟨ret_bool HE.out, (Below.refl _ _).alloc (Nat.le_refl _) _⟩
theorem fits_own (what at_ count : Nat) (t b : ByteArray) (w : World) (hw : what = 1 ∨ what = 2) :
    Calls Tryz.prog 207 #[.agg #[.int .i64 what, .int .i64 at_, .int .i64 count, .string t], .string b] w fun e w' => e = .returned (.bool true) ∧ Below w.heap.size w w' := by
  rcases hw with rfl | rfl
  · go_enter Tryz.func207, Tryz.ntmps207
    go_wp2
    go_ret
    exact ⟨rfl, (Below.refl _ _).alloc (Nat.le_refl _) _⟩
  · go_enter Tryz.func207, Tryz.ntmps207
    go_wp2
    go_ret
    exact ⟨rfl, (Below.refl _ _).alloc (Nat.le_refl _) _⟩
end Go.Proofs.YtjfmiomopfjecabGreat

/- Pages of the flash: what is read, and what is written. -/
namespace Go.Proofs.YtjfmiomopfjecabGreat
open Go.RowKit Go.Lib

theorem wordByte_at (s : ByteArray) (k : Int) (i : Nat) (w : World) (hs : s.size ≤ maxLen) (hk : k = i) :
    Calls Tryz.prog 100 #[.string s, .int .i64 k] w fun e w' => e = .returned (.int .i64 (M.bz s i)) ∧ w = w' := by
  subst hk
  exact wordByte_nat s i w hs
theorem wordNumber_any (s : ByteArray) (k : Int) (i : Nat) (w : World) (hs : s.size ≤ maxLen) (hk : k = i) (hi : i ≤ 1000000) :
    Calls Tryz.prog 175 #[.string s, .int .i64 k] w fun e w' => e = .returned (.int .i64 (M.bz s i * 256 + M.bz s (i + 1) : Nat)) ∧ w = w' := by
  subst hk
  have HL := hide hs
  have b0 := M.bz_lt s i
  have b1 := M.bz_lt s (i + 1)
  go_enter Tryz.func175, Tryz.ntmps175
  go_wp2_with fail
  refine (wordByte_at s _ i _ (unhide HL) rfl).mono ?_
  rintro e w' ⟨rfl, rfl⟩
  generalize hx : M.bz s i = x at *
  have HX := hide hx
  clear hx
  go_wp2_with fail
  refine (wordByte_at s _ (i + 1) _ (unhide HL) (by omega)).mono ?_
  rintro e w' ⟨rfl, rfl⟩
  generalize hy : M.bz s (i + 1) = y at *
  have HY := hide hy
  clear hy
  go_wp2
  go_ret
  exact ⟨ret_int (by rw [HX.out, HY.out]; omega), rfl⟩
set_option maxRecDepth 10000 in
theorem padded_any (s : ByteArray) (f n : Nat) (k : Int) (w : World) (hs : s.size ≤ maxLen) (hf : f ≤ 100000) (hn : n ≤ 1000) (hk : k = f) :
    Calls Tryz.prog 104 #[.string s, .int .i64 k, .int .i64 n] w fun e w' => e = .returned (.string (M.mk n fun j => M.bz s (f + j))) ∧ Below w.heap.size w w' := by
  subst hk
  have HL := hide hs
  go_enter Tryz.func104, Tryz.ntmps104
  go_wp2_with fail
  go_loopw [7, 8] (fun v i wr => ∃ (k : Nat) (o : ByteArray), k ≤ n ∧ i = .int .i64 k ∧ Hid (o = M.mk k fun j => M.bz s (f + j)) ∧ wr.ownsRow w.heap.size 5 1 v o.size (strCells o) ∧ Below w.heap.size w wr) (fun _ i _ => n - (intOf i).toNat)
  case atStart => exact ⟨0, ⟨#[]⟩, by omega, rfl, rfl, World.ownsRow_nil _ _ _ _, Below.refl _ _⟩
  case round =>
    obtain ⟨k, o, hk, rfl, ho, hown, hbel⟩ := hrel
    have hsz := hbel.size
    have HZ : Hid (o.size = k) := by rw [ho.out, M.mk_size]; rfl
    by_cases hlt : k < n
    · have HO := hide hown
      have HB := hide hbel
      have HS : Hid (o ++ M.bytesOf [M.bz s (f + k)] = M.mk (k + 1) fun j => M.bz s (f + j)) := by
        rw [M.mk_succ, ← ho.out]; rfl
      have b1 := M.bz_lt s (f + k)
      clear hown hbel
      go_wp2_with fail
      refine (wordByte_at s _ (f + k) _ (unhide HL) (by omega)).mono ?_
      rintro e w' ⟨rfl, rfl⟩
      generalize M.bz s (f + k) = y at *
      go_wp2_with (at_builtin; (refine append_byte _ rfl (.tmp 14) (.tmp 21) rfl w.heap.size u7 o y wr.heap.size (by omega) rfl rfl (by simp) ((unhide HO).alloc _) (by rw [HZ.out]; omega) (by simp; omega) ?_); intro v' w1 hown1 hbel1 hsz1)
      have HR : Hid (w1.ownsRow w.heap.size 5 1 v' (M.mk (k + 1) fun j => M.bz s (f + j)).size (strCells (M.mk (k + 1) fun j => M.bz s (f + j)))) := by rw [← HS.out]; exact hown1
      have HB1 := hide (hbel1 w ((unhide HB).alloc hsz _))
      clear hown1 hbel1
      go_roundw
      case rel => exact ⟨k + 1, _, by omega, by go_num, rfl, unhide HR, unhide HB1⟩
      case measure => simp [intOf]; omega
    · have hkn : k = n := by omega
      subst hkn
      have hr := row_text _ _ _ _ hown
      have HB := hide hbel
      clear hown hbel
      go_wp2
      go_ret
      exact ⟨ret_string ho.out, unhide HB⟩
theorem needed_any (n : Nat) (w : World) (hn : n ≤ 1000000) :
    Calls Tryz.prog 73 #[.int .i64 n] w fun e w' => e = .returned (.int .i64 (M.chunksN n)) ∧ w = w' := by
  have HE := hide (show M.chunksN n = (n + 15) / 16 from rfl)
  go_enter Tryz.func73, Tryz.ntmps73
  go_wp2
  go_ret
  exact ⟨ret_int (by rw [HE.out]; omega), rfl⟩

/- what is to be written, as it lies in memory -/
abbrev GW := Nat × ByteArray
def gwCells (l : List GW) : List Value := l.flatMap fun a => [.int .i64 (a.1 : Int), .string a.2]
theorem gwCells_snoc (l : List GW) (a : GW) : gwCells (l ++ [a]) = gwCells l ++ [.int .i64 (a.1 : Int), .string a.2] := by simp [gwCells]
theorem gwCells_length (l : List GW) : (gwCells l).length = 2 * l.length := by
  induction l with
  | nil => rfl
  | cons a l ih => simp [gwCells] at ih ⊢; omega
theorem gwCells_at {l : List GW} {i : Nat} (h : i < l.length) : (gwCells l)[2 * i]? = some (.int .i64 ((l[i]).1 : Int)) ∧ (gwCells l)[2 * i + 1]? = some (.string (l[i]).2) := by
  induction l generalizing i with
  | nil => simp at h
  | cons a l ih =>
    have e : gwCells (a :: l) = .int .i64 (a.1 : Int) :: .string a.2 :: gwCells l := by simp [gwCells]
    rw [e]
    cases i with
    | zero => simp
    | succ i =>
      have := ih (i := i) (by simpa using h)
      rw [show 2 * (i + 1) = 2 * i + 1 + 1 from by omega]
      simpa using this
def gwOf (a : GW) : M.Wr := (a.1, M.bz a.2)
theorem infoW : (Tryz.prog.info? 136).map (fun i => (i.zero, i.size, i.bytes)) = some (some (.agg #[.int .i64 0, .string ⟨#[]⟩]), 2, 24) := by kernel_rfl
theorem append_write {ops : Array Oper} {rest : List Oper} {o : Oper} {a : Act} {Q : Exit → Act → World → Prop} (w : World) (hgd : o.guard = none) (s x : Operand)
    (ho : o.op = .call { callee := .builtin .append, args := #[s, x], argTypes := #[127, 127] })
    (base : Nat) (v : Value) (l : List GW) (p : Int) (y : GW) (hs : a.eval s = v) (hx : a.eval x = .slice (some ⟨w.heap.size, 0, none⟩) 1 1) (hp : p = y.1)
    (hown : w.ownsRow base 136 2 v l.length (gwCells l)) (hn : l.length + 1 ≤ 1000000) (hbase : base ≤ w.heap.size)
    (h : ∀ v' w', w'.ownsRow base 136 2 v' (l ++ [y]).length (gwCells (l ++ [y])) → (∀ w0, Below base w0 w → Below base w0 w') → w.heap.size ≤ w'.heap.size → wpList Tryz.prog ops Q rest (a.put o.dst v') w') :
    wpList Tryz.prog ops Q (o :: rest) a (w.alloc (.cells #[.int .i64 p, .string y.2] 136)) := by
  subst hp
  obtain ⟨i0, hi, hz0, hz1, hz2⟩ := info_parts infoW
  refine append_one w hgd s x 127 ho base 136 i0 _ 2 24 Tryz.underlying127 hi hz0 hz1 hz2 rfl (by decide) v l.length (gwCells l) hs hown [.int .i64 (y.1 : Int), .string y.2] rfl hx ?_ hn (by omega) hbase ?_
  · intro u hu
    simp only [List.mem_cons, List.not_mem_nil, or_false] at hu
    rcases hu with rfl | rfl <;> rfl
  · intro v' w' a b c
    refine h v' w' ?_ b c
    rw [List.length_append, gwCells_snoc]
    exact a
/-- a text laid into n pages -/
def spreadG (first n : Nat) (s : ByteArray) : List GW := (List.range n).map fun i => (first + i, M.mk 16 fun j => M.bz s (16 * i + j))
theorem spreadG_succ (first n : Nat) (s : ByteArray) : spreadG first (n + 1) s = spreadG first n s ++ [(first + n, M.mk 16 fun j => M.bz s (16 * n + j))] := by
  unfold spreadG; rw [List.range_succ, List.map_append]; rfl
theorem spreadG_length (first n : Nat) (s : ByteArray) : (spreadG first n s).length = n := by simp [spreadG]
set_option maxRecDepth 10000 in
theorem spread_any (first n : Nat) (s : ByteArray) (w : World) (hs : s.size ≤ maxLen) (hf : first ≤ 1000) (hn : n ≤ 1000) :
    Calls Tryz.prog 71 #[.int .i64 first, .int .i64 n, .string s] w fun e w' => ∃ v, e = .returned v ∧ w'.ownsRow w.heap.size 136 2 v n (gwCells (spreadG first n s)) ∧ Below w.heap.size w w' := by
  have HL := hide hs
  go_enter Tryz.func71, Tryz.ntmps71
  go_wp2_with fail
  go_loopw [7, 8] (fun v i wr => ∃ k : Nat, k ≤ n ∧ i = .int .i64 k ∧ wr.ownsRow w.heap.size 136 2 v (spreadG first k s).length (gwCells (spreadG first k s)) ∧ Below w.heap.size w wr) (fun _ i _ => n - (intOf i).toNat)
  case atStart => exact ⟨0, by omega, rfl, World.ownsRow_nil _ _ _ _, Below.refl _ _⟩
  case round =>
    obtain ⟨k, hk, rfl, hown, hbel⟩ := hrel
    have hsz := hbel.size
    have HN := hide (spreadG_length first k s)
    by_cases hlt : k < n
    · have HO := hide hown
      have HB := hide hbel
      have HS := hide (spreadG_succ first k s)
      clear hown hbel
      go_wp2_with fail
      refine (padded_any s (16 * k) 16 _ _ (unhide HL) (by omega) (by omega) (by omega)).mono ?_
      rintro e w1 ⟨rfl, hb1⟩
      generalize hy : (M.mk 16 fun j => M.bz s (16 * k + j)) = y at *
      have HY := hide hy
      have hsz1 := hb1.size
      have HO1 := hide (ownsRow_below (unhide HO) hb1)
      have HB1 := hide ((unhide HB).trans (hb1.mono hsz))
      clear hy hb1
      go_wp2_with (at_builtin; (refine append_write _ rfl (.tmp 19) (.tmp 25) rfl w.heap.size u7 (spreadG first k s) _ (first + k, y) rfl rfl (by omega) (unhide HO1) (by rw [HN.out]; omega) (by omega) ?_); intro v' w2 hown2 hbel2 hsz2)
      have HR : Hid (w2.ownsRow w.heap.size 136 2 v' (spreadG first (k + 1) s).length (gwCells (spreadG first (k + 1) s))) := by rw [HS.out]; exact hown2
      have HB2 := hide (hbel2 w (unhide HB1))
      clear hown2 hbel2
      go_roundw
      case rel => exact ⟨k + 1, by omega, by go_num, unhide HR, unhide HB2⟩
      case measure => simp [intOf]; omega
    · have hkn : k = n := by omega
      subst hkn
      have HO : Hid (wr.ownsRow w.heap.size 136 2 u7 k (gwCells (spreadG first k s))) := by
        have := hown; rw [HN.out] at this; exact this
      have HB := hide hbel
      clear hown hbel
      go_wp2
      go_ret
      exact ⟨_, rfl, unhide HO, unhide HB⟩
end Go.Proofs.YtjfmiomopfjecabGreat

/- A step of a patch: what it gives, and how it is read. -/
namespace Go.Proofs.YtjfmiomopfjecabGreat
open Go.RowKit Go.Lib

def opHead (p : ByteArray) (i : Nat) : Nat := if M.bz p i = 0 then 3 else if M.bz p i = 1 then 2 else if M.bz p i = 2 then 2 else 3
def opAt (p : ByteArray) (i : Nat) : Nat := if M.bz p i = 0 then M.bz p (i + 1) else if M.bz p i = 1 then 0 else if M.bz p i = 2 then 0 else M.bz p (i + 1)
def opOwn (p : ByteArray) (i : Nat) : ByteArray := M.mk (M.opLen p i - opHead p i) fun j => M.bz p (i + opHead p i + j)
def stepV (p : ByteArray) (i : Nat) : Value := .agg #[.int .i64 (M.bz p i), .int .i64 (opAt p i), .int .i64 (M.opCount p i), .string (opOwn p i)]
def stepNo : Value := .agg #[.int .i64 0, .int .i64 0, .int .i64 0, .string ⟨#[]⟩]
theorem ret_step {a b c d : Int} {a' b' c' d' : Int} {t t' : ByteArray} (h1 : a = a') (h2 : b = b') (h3 : c = c') (h4 : t = t') (h5 : d = d') :
    Ending.returned (.tuple #[.agg #[.int .i64 a, .int .i64 b, .int .i64 c, .string t], .int .i64 d, .bool true]) = .returned (.tuple #[.agg #[.int .i64 a', .int .i64 b', .int .i64 c', .string t'], .int .i64 d', .bool true]) := by rw [h1, h2, h3, h4, h5]

/-- what a step that is there and fits gives -/
theorem gives_any (b p : ByteArray) (i : Nat) (w : World) (hb : b.size ≤ 2000000) (hok : M.opOk b p i = true) :
    Calls Tryz.prog 206 #[stepV p i, .string b] w fun e w' => e = .returned (.string (M.opGives b p i)) ∧ Below w.heap.size w w' := by
  have h3 := M.opOk_what hok
  have b1 := M.bz_lt p (i + 1)
  have b2 := M.bz_lt p (i + 2)
  have hcase : M.bz p i = 0 ∨ M.bz p i = 1 ∨ M.bz p i = 2 ∨ M.bz p i = 3 := by omega
  unfold stepV
  rcases hcase with h0 | h0 | h0 | h0
  · have hf : M.bz p (i + 1) + M.bz p (i + 2) ≤ b.size := by
      simp only [M.opOk, M.opFits, h0, Bool.and_eq_true, decide_true, Bool.true_or, Bool.not_true, Bool.false_or, decide_eq_true_eq] at hok
      exact hok.2
    have e1 : opAt p i = M.bz p (i + 1) := by simp [opAt, h0]
    have e2 : M.opCount p i = M.bz p (i + 2) := by simp [M.opCount, h0]
    have HG : Hid ((M.mk (M.bz p (i + 2)) fun j => M.bz b (M.bz p (i + 1) + j)) = M.opGives b p i) := by
      show _ = M.mk (M.opCount p i) (M.opByte b p i)
      rw [e2]
      exact M.mk_congr fun j _ => by simp [M.opByte, h0]
    rw [e1, e2, h0]
    clear hok h0 e1 e2
    generalize M.opGives b p i = G at *
    generalize opOwn p i = t at *
    generalize M.bz p (i + 1) = x at *
    generalize M.bz p (i + 2) = y at *
    go_enter Tryz.func206, Tryz.ntmps206
    go_wp2_with fail
    refine (part_yes b x y _ hb hf).mono ?_
    rintro e w' ⟨rfl, rfl⟩
    rw [HG.out]
    go_wp2
    go_ret
    exact ⟨rfl, (Below.refl _ _).alloc (Nat.le_refl _) _⟩
  · have e2 : M.opCount p i = M.bz p (i + 1) := by simp [M.opCount, h0]
    have e3 : M.opLen p i - opHead p i = M.bz p (i + 1) := by simp [M.opLen, opHead, h0]
    have e4 : opHead p i = 2 := by simp [opHead, h0]
    have HG : Hid (opOwn p i = M.opGives b p i) := by
      show M.mk _ _ = M.mk (M.opCount p i) (M.opByte b p i)
      rw [e2, e3]
      exact M.mk_congr fun j _ => by simp [M.opByte, h0, e4]
    rw [h0]
    clear hok h0 e2 e3 e4
    generalize M.opGives b p i = G at *
    generalize opOwn p i = t at *
    generalize opAt p i = x at *
    generalize M.opCount p i = y at *
    go_enter Tryz.func206, Tryz.ntmps206
    go_wp2
    go_ret
    exact ⟨ret_string HG.out, (Below.refl _ _).alloc (Nat.le_refl _) _⟩
  · have e2 : M.opCount p i = M.bz p (i + 1) := by simp [M.opCount, h0]
    have e3 : M.opLen p i - opHead p i = 1 := by simp [M.opLen, opHead, h0]
    have e4 : opHead p i = 2 := by simp [opHead, h0]
    have HG : Hid ((M.mk (M.bz p (i + 1)) fun _ => M.bz p (i + 2)) = M.opGives b p i) := by
      show _ = M.mk (M.opCount p i) (M.opByte b p i)
      rw [e2]
      exact M.mk_congr fun j _ => by simp [M.opByte, h0]
    have e5 : opOwn p i = M.bytesOf [M.bz p (i + 2)] := by
      unfold opOwn
      rw [e3, e4]; rfl
    rw [e2, e5, h0]
    clear hok h0 e2 e3 e4 e5
    generalize M.opGives b p i = G at *
    generalize opAt p i = u at *
    generalize M.bz p (i + 1) = x at *
    generalize M.bz p (i + 2) = y at *
    go_enter Tryz.func206, Tryz.ntmps206
    go_wp2_with fail
    refine (repeated_any y x _ (by omega)).mono ?_
    rintro e w' ⟨rfl, hb1⟩
    rw [HG.out]
    have HB : Hid (Below w.heap.size w w') := ((Below.refl _ _).alloc (Nat.le_refl _) _).trans (hb1.mono (by simp))
    clear hb1
    go_wp2
    go_ret
    exact ⟨rfl, unhide HB⟩
  · have hf : M.bz p (i + 1) + M.bz p (i + 2) ≤ b.size := by
      simp only [M.opOk, M.opFits, h0, Bool.and_eq_true, decide_true, Bool.or_true, Bool.not_true, Bool.false_or, decide_eq_true_eq] at hok
      exact hok.2
    have e1 : opAt p i = M.bz p (i + 1) := by simp [opAt, h0]
    have e2 : M.opCount p i = M.bz p (i + 2) := by simp [M.opCount, h0]
    have e3 : M.opLen p i - opHead p i = M.bz p (i + 2) := by simp [M.opLen, opHead, h0]
    have e4 : opHead p i = 3 := by simp [opHead, h0]
    have e5 : opOwn p i = M.mk (M.bz p (i + 2)) fun j => M.bz p (i + 3 + j) := by
      unfold opOwn
      rw [e3, e4]
    have HG : Hid ((M.mk (M.bz p (i + 2)) fun j => (M.bz (M.mk (M.bz p (i + 2)) fun j => M.bz b (M.bz p (i + 1) + j)) j + M.bz (M.mk (M.bz p (i + 2)) fun j => M.bz p (i + 3 + j)) j) % 256) = M.opGives b p i) := by
      show _ = M.mk (M.opCount p i) (M.opByte b p i)
      rw [e2]
      refine M.mk_congr fun j hj => ?_
      rw [M.bz_mk (fun _ _ => M.bz_lt _ _) hj, M.bz_mk (fun _ _ => M.bz_lt _ _) hj]
      simp [M.opByte, h0]
    have z2 := M.mk_size (M.bz p (i + 2)) fun j => M.bz p (i + 3 + j)
    have z1 := M.mk_size (M.bz p (i + 2)) fun j => M.bz b (M.bz p (i + 1) + j)
    rw [e1, e2, e5, h0]
    clear hok h0 e1 e2 e3 e4 e5
    generalize M.opGives b p i = G at *
    generalize (M.mk (M.bz p (i + 2)) fun j => M.bz p (i + 3 + j)) = t at *
    generalize M.bz p (i + 1) = x at *
    generalize M.bz p (i + 2) = y at *
    have Z1 := hide z1
    have Z2 := hide z2
    clear z1 z2
    go_enter Tryz.func206, Tryz.ntmps206
    go_wp2_with fail
    refine (part_yes b x y _ hb hf).mono ?_
    rintro e w' ⟨rfl, rfl⟩
    generalize (M.mk y fun j => M.bz b (x + j)) = r at *
    go_wp2_with fail
    refine (added_any r t y _ (unhide Z1) (unhide Z2) (by omega)).mono ?_
    rintro e w' ⟨rfl, hb1⟩
    rw [HG.out]
    have HB : Hid (Below w.heap.size w w') := ((Below.refl _ _).alloc (Nat.le_refl _) _).trans (hb1.mono (by simp))
    clear hb1
    go_wp2
    go_ret
    exact ⟨rfl, unhide HB⟩
end Go.Proofs.YtjfmiomopfjecabGreat

/- A step that is read. -/
namespace Go.Proofs.YtjfmiomopfjecabGreat
open Go.RowKit Go.Lib

theorem there_iff (p : ByteArray) (i : Nat) (h : M.bz p i ≤ 3) : M.opThere p i = decide (i + M.opLen p i ≤ p.size) := by
  unfold M.opThere
  rw [decide_eq_true h, Bool.true_and]
theorem part_yes_at (s : ByteArray) (k c : Int) (a n : Nat) (w : World) (hs : s.size ≤ 2000000) (h : a + n ≤ s.size) (hk : k = a) (hc : c = n) :
    Calls Tryz.prog 96 #[.string s, .int .i64 k, .int .i64 c] w fun e w' => e = .returned (.tuple #[.string (M.mk n fun j => M.bz s (a + j)), .bool true]) ∧ w = w' := by
  subst hk hc
  exact part_yes s a n w hs h
theorem part_no_at (s : ByteArray) (k c : Int) (a n : Nat) (w : World) (hs : s.size ≤ 2000000) (ha : a ≤ 4000000) (hn : n ≤ 4000000) (h : s.size < a + n) (hk : k = a) (hc : c = n) :
    Calls Tryz.prog 96 #[.string s, .int .i64 k, .int .i64 c] w fun e w' => e = .returned (.tuple #[.string ⟨#[]⟩, .bool false]) ∧ w = w' := by
  subst hk hc
  exact part_no s a n w hs ha hn h
theorem two_new (w : World) (a b : Obj) : Below w.heap.size w ((w.alloc a).alloc b) := ((Below.refl _ _).alloc (Nat.le_refl _) _).alloc (by simp) _

def Reads (p : ByteArray) (i : Nat) (w : World) (e : Ending) (w' : World) : Prop :=
  (M.opThere p i = true → e = .returned (.tuple #[stepV p i, .int .i64 (i + M.opLen p i : Nat), .bool true])) ∧
  (M.opThere p i = false → e = .returned (.tuple #[stepNo, .int .i64 0, .bool false])) ∧ Below w.heap.size w w'
theorem reads_yes {p : ByteArray} {i : Nat} {w w' : World} {v : Value} {k : Int} (h : M.opThere p i = true) (hv : stepV p i = v) (hk : k = (i + M.opLen p i : Nat)) (hb : Below w.heap.size w w') : Reads p i w (.returned (.tuple #[v, .int .i64 k, .bool true])) w' :=
  ⟨fun _ => by rw [hv, hk], ⟨fun h' => absurd (h.symm.trans h') (by decide), hb⟩⟩
theorem reads_no {p : ByteArray} {i : Nat} {w w' : World} (h : M.opThere p i = false) (hb : Below w.heap.size w w') : Reads p i w (.returned (.tuple #[stepNo, .int .i64 0, .bool false])) w' :=
  ⟨fun h' => absurd (h.symm.trans h') (by decide), ⟨fun _ => rfl, hb⟩⟩
theorem read_zero (p : ByteArray) (i : Nat) (w : World) (hp : p.size ≤ 2000000) (hi : i < p.size) (h0 : M.bz p i = 0) :
    Calls Tryz.prog 205 #[.string p, .int .i64 i] w fun e w' => Reads p i w e w' := by
  have hpm : p.size ≤ maxLen := by unfold maxLen; omega
  have b1 := M.bz_lt p (i + 1)
  have b2 := M.bz_lt p (i + 2)
  have hl : M.opLen p i = 3 := by simp [M.opLen, h0]
  have HT := hide (there_iff p i (by omega))
  have HV : Hid (stepV p i = .agg #[.int .i64 (0 : Nat), .int .i64 (M.bz p (i + 1) : Nat), .int .i64 (M.bz p (i + 2) : Nat), .string (M.mk 0 fun j => M.bz p (i + 3 + j))]) := by
    show stepV p i = _
    unfold stepV opOwn
    simp [h0, hl, opAt, M.opCount, opHead]
  have HL := hide hl
  rw [hl] at HT
  have hl' : i + M.opLen p i = i + (3) := by rw [hl]
  clear hl hl'
  go_enter Tryz.func205, Tryz.ntmps205
  go_wp2_with fail
  refine (wordByte_nat p i _ hpm).mono ?_
  rintro e w' ⟨rfl, rfl⟩
  rw [h0]
  clear h0
  go_wp2_with fail
  refine (wordByte_at p _ (i + 1) _ hpm (by omega)).mono ?_
  rintro e w' ⟨rfl, rfl⟩
  generalize M.bz p (i + 1) = x at *
  go_wp2_with fail
  refine (wordByte_at p _ (i + 2) _ hpm (by omega)).mono ?_
  rintro e w' ⟨rfl, rfl⟩
  generalize M.bz p (i + 2) = y at *
  by_cases hq : i + 3 + 0 ≤ p.size
  · have HY : Hid (M.opThere p i = true) := by rw [HT.out]; exact decide_eq_true (by omega)
    go_wp2_with fail
    refine (part_yes_at p _ _ (i + 3) 0 _ hp hq (by omega) (by omega)).mono ?_
    rintro e w' ⟨rfl, rfl⟩
    generalize (M.mk 0 fun j => M.bz p (i + 3 + j)) = t at *
    go_wp2
    refine bodyPost_ret (v := .tuple #[.agg #[.int .i64 (0 : Nat), .int .i64 (x : Nat), .int .i64 y, .string t], .int .i64 _, .bool true]) (by simp [results, Tryz.results205, go_sem]; rfl) rfl ?_
    exact reads_yes (unhide HY) HV.out (by rw [HL.out]; omega) (two_new _ _ _)
  · have HY : Hid (M.opThere p i = false) := by rw [HT.out]; exact decide_eq_false (by omega)
    go_wp2_with fail
    refine (part_no_at p _ _ (i + 3) 0 _ hp (by omega) (by omega) (by omega) (by omega) (by omega)).mono ?_
    rintro e w' ⟨rfl, rfl⟩
    go_wp2
    refine bodyPost_ret (v := .tuple #[stepNo, .int .i64 0, .bool false]) (by simp [results, Tryz.results205, go_sem, stepNo]) rfl ?_
    exact reads_no (unhide HY) (two_new _ _ _)
theorem read_one (p : ByteArray) (i : Nat) (w : World) (hp : p.size ≤ 2000000) (hi : i < p.size) (h0 : M.bz p i = 1) :
    Calls Tryz.prog 205 #[.string p, .int .i64 i] w fun e w' => Reads p i w e w' := by
  have hpm : p.size ≤ maxLen := by unfold maxLen; omega
  have b1 := M.bz_lt p (i + 1)
  have b2 := M.bz_lt p (i + 2)
  have hl : M.opLen p i = 2 + M.bz p (i + 1) := by simp [M.opLen, h0]
  have HT := hide (there_iff p i (by omega))
  have HV : Hid (stepV p i = .agg #[.int .i64 (1 : Nat), .int .i64 (0 : Nat), .int .i64 (M.bz p (i + 1) : Nat), .string (M.mk (M.bz p (i + 1)) fun j => M.bz p (i + 2 + j))]) := by
    show stepV p i = _
    unfold stepV opOwn
    simp [h0, hl, opAt, M.opCount, opHead]
  have HL := hide hl
  rw [hl] at HT
  have hl' : i + M.opLen p i = i + (2 + M.bz p (i + 1)) := by rw [hl]
  clear hl hl'
  go_enter Tryz.func205, Tryz.ntmps205
  go_wp2_with fail
  refine (wordByte_nat p i _ hpm).mono ?_
  rintro e w' ⟨rfl, rfl⟩
  rw [h0]
  clear h0
  go_wp2_with fail
  refine (wordByte_at p _ (i + 1) _ hpm (by omega)).mono ?_
  rintro e w' ⟨rfl, rfl⟩
  generalize M.bz p (i + 1) = x at *
  by_cases hq : i + 2 + x ≤ p.size
  · have HY : Hid (M.opThere p i = true) := by rw [HT.out]; exact decide_eq_true (by omega)
    go_wp2_with fail
    refine (part_yes_at p _ _ (i + 2) x _ hp hq (by omega) (by omega)).mono ?_
    rintro e w' ⟨rfl, rfl⟩
    generalize (M.mk x fun j => M.bz p (i + 2 + j)) = t at *
    go_wp2
    refine bodyPost_ret (v := .tuple #[.agg #[.int .i64 (1 : Nat), .int .i64 (0 : Nat), .int .i64 x, .string t], .int .i64 _, .bool true]) (by simp [results, Tryz.results205, go_sem]; rfl) rfl ?_
    exact reads_yes (unhide HY) HV.out (by rw [HL.out]; omega) (two_new _ _ _)
  · have HY : Hid (M.opThere p i = false) := by rw [HT.out]; exact decide_eq_false (by omega)
    go_wp2_with fail
    refine (part_no_at p _ _ (i + 2) x _ hp (by omega) (by omega) (by omega) (by omega) (by omega)).mono ?_
    rintro e w' ⟨rfl, rfl⟩
    go_wp2
    refine bodyPost_ret (v := .tuple #[stepNo, .int .i64 0, .bool false]) (by simp [results, Tryz.results205, go_sem, stepNo]) rfl ?_
    exact reads_no (unhide HY) (two_new _ _ _)
theorem read_two (p : ByteArray) (i : Nat) (w : World) (hp : p.size ≤ 2000000) (hi : i < p.size) (h0 : M.bz p i = 2) :
    Calls Tryz.prog 205 #[.string p, .int .i64 i] w fun e w' => Reads p i w e w' := by
  have hpm : p.size ≤ maxLen := by unfold maxLen; omega
  have b1 := M.bz_lt p (i + 1)
  have b2 := M.bz_lt p (i + 2)
  have hl : M.opLen p i = 3 := by simp [M.opLen, h0]
  have HT := hide (there_iff p i (by omega))
  have HV : Hid (stepV p i = .agg #[.int .i64 (2 : Nat), .int .i64 (0 : Nat), .int .i64 (M.bz p (i + 1) : Nat), .string (M.mk 1 fun j => M.bz p (i + 2 + j))]) := by
    show stepV p i = _
    unfold stepV opOwn
    simp [h0, hl, opAt, M.opCount, opHead]
  have HL := hide hl
  rw [hl] at HT
  have hl' : i + M.opLen p i = i + (3) := by rw [hl]
  clear hl hl'
  go_enter Tryz.func205, Tryz.ntmps205
  go_wp2_with fail
  refine (wordByte_nat p i _ hpm).mono ?_
  rintro e w' ⟨rfl, rfl⟩
  rw [h0]
  clear h0
  go_wp2_with fail
  refine (wordByte_at p _ (i + 1) _ hpm (by omega)).mono ?_
  rintro e w' ⟨rfl, rfl⟩
  generalize M.bz p (i + 1) = x at *
  by_cases hq : i + 2 + 1 ≤ p.size
  · have HY : Hid (M.opThere p i = true) := by rw [HT.out]; exact decide_eq_true (by omega)
    go_wp2_with fail
    refine (part_yes_at p _ _ (i + 2) 1 _ hp hq (by omega) (by omega)).mono ?_
    rintro e w' ⟨rfl, rfl⟩
    generalize (M.mk 1 fun j => M.bz p (i + 2 + j)) = t at *
    go_wp2
    refine bodyPost_ret (v := .tuple #[.agg #[.int .i64 (2 : Nat), .int .i64 (0 : Nat), .int .i64 x, .string t], .int .i64 _, .bool true]) (by simp [results, Tryz.results205, go_sem]; rfl) rfl ?_
    exact reads_yes (unhide HY) HV.out (by rw [HL.out]; omega) (two_new _ _ _)
  · have HY : Hid (M.opThere p i = false) := by rw [HT.out]; exact decide_eq_false (by omega)
    go_wp2_with fail
    refine (part_no_at p _ _ (i + 2) 1 _ hp (by omega) (by omega) (by omega) (by omega) (by omega)).mono ?_
    rintro e w' ⟨rfl, rfl⟩
    go_wp2
    refine bodyPost_ret (v := .tuple #[stepNo, .int .i64 0, .bool false]) (by simp [results, Tryz.results205, go_sem, stepNo]) rfl ?_
    exact reads_no (unhide HY) (two_new _ _ _)
theorem read_three (p : ByteArray) (i : Nat) (w : World) (hp : p.size ≤ 2000000) (hi : i < p.size) (h0 : M.bz p i = 3) :
    Calls Tryz.prog 205 #[.string p, .int .i64 i] w fun e w' => Reads p i w e w' := by
  have hpm : p.size ≤ maxLen := by unfold maxLen; omega
  have b1 := M.bz_lt p (i + 1)
  have b2 := M.bz_lt p (i + 2)
  have hl : M.opLen p i = 3 + M.bz p (i + 2) := by simp [M.opLen, h0]
  have HT := hide (there_iff p i (by omega))
  have HV : Hid (stepV p i = .agg #[.int .i64 (3 : Nat), .int .i64 (M.bz p (i + 1) : Nat), .int .i64 (M.bz p (i + 2) : Nat), .string (M.mk (M.bz p (i + 2)) fun j => M.bz p (i + 3 + j))]) := by
    show stepV p i = _
    unfold stepV opOwn
    simp [h0, hl, opAt, M.opCount, opHead]
  have HL := hide hl
  rw [hl] at HT
  have hl' : i + M.opLen p i = i + (3 + M.bz p (i + 2)) := by rw [hl]
  clear hl hl'
  go_enter Tryz.func205, Tryz.ntmps205
  go_wp2_with fail
  refine (wordByte_nat p i _ hpm).mono ?_
  rintro e w' ⟨rfl, rfl⟩
  rw [h0]
  clear h0
  go_wp2_with fail
  refine (wordByte_at p _ (i + 1) _ hpm (by omega)).mono ?_
  rintro e w' ⟨rfl, rfl⟩
  generalize M.bz p (i + 1) = x at *
  go_wp2_with fail
  refine (wordByte_at p _ (i + 2) _ hpm (by omega)).mono ?_
  rintro e w' ⟨rfl, rfl⟩
  generalize M.bz p (i + 2) = y at *
  by_cases hq : i + 3 + y ≤ p.size
  · have HY : Hid (M.opThere p i = true) := by rw [HT.out]; exact decide_eq_true (by omega)
    go_wp2_with fail
    refine (part_yes_at p _ _ (i + 3) y _ hp hq (by omega) (by omega)).mono ?_
    rintro e w' ⟨rfl, rfl⟩
    generalize (M.mk y fun j => M.bz p (i + 3 + j)) = t at *
    go_wp2
    refine bodyPost_ret (v := .tuple #[.agg #[.int .i64 (3 : Nat), .int .i64 (x : Nat), .int .i64 y, .string t], .int .i64 _, .bool true]) (by simp [results, Tryz.results205, go_sem]; rfl) rfl ?_
    exact reads_yes (unhide HY) HV.out (by rw [HL.out]; omega) (two_new _ _ _)
  · have HY : Hid (M.opThere p i = false) := by rw [HT.out]; exact decide_eq_false (by omega)
    go_wp2_with fail
    refine (part_no_at p _ _ (i + 3) y _ hp (by omega) (by omega) (by omega) (by omega) (by omega)).mono ?_
    rintro e w' ⟨rfl, rfl⟩
    go_wp2
    refine bodyPost_ret (v := .tuple #[stepNo, .int .i64 0, .bool false]) (by simp [results, Tryz.results205, go_sem, stepNo]) rfl ?_
    exact reads_no (unhide HY) (two_new _ _ _)
theorem read_more (p : ByteArray) (i : Nat) (w : World) (hp : p.size ≤ 2000000) (hi : i < p.size) (h0 : 3 < M.bz p i) :
    Calls Tryz.prog 205 #[.string p, .int .i64 i] w fun e w' => Reads p i w e w' := by
  have hpm : p.size ≤ maxLen := by unfold maxLen; omega
  have b0 := M.bz_lt p i
  have b1 := M.bz_lt p (i + 1)
  have HY : Hid (M.opThere p i = false) := by
    show M.opThere p i = false
    unfold M.opThere
    rw [decide_eq_false (by omega), Bool.false_and]
  go_enter Tryz.func205, Tryz.ntmps205
  go_wp2_with fail
  refine (wordByte_nat p i _ hpm).mono ?_
  rintro e w' ⟨rfl, rfl⟩
  generalize M.bz p i = z at *
  have k0 : ((z : Int) == 0) = false := by rw [beq_eq_false_iff_ne]; omega
  have k1 : ((z : Int) == 1) = false := by rw [beq_eq_false_iff_ne]; omega
  have k2 : ((z : Int) == 2) = false := by rw [beq_eq_false_iff_ne]; omega
  have k3 : ((z : Int) == 3) = false := by rw [beq_eq_false_iff_ne]; omega
  go_wp2_with fail
  refine (wordByte_at p _ (i + 1) _ hpm (by omega)).mono ?_
  rintro e w' ⟨rfl, rfl⟩
  generalize M.bz p (i + 1) = x at *
  go_wp2
  refine bodyPost_ret (v := .tuple #[stepNo, .int .i64 0, .bool false]) (by simp [results, Tryz.results205, go_sem, stepNo]) rfl ?_
  exact reads_no (unhide HY) (two_new _ _ _)
theorem read_any (p : ByteArray) (i : Nat) (w : World) (hp : p.size ≤ 2000000) (hi : i < p.size) :
    Calls Tryz.prog 205 #[.string p, .int .i64 i] w fun e w' => Reads p i w e w' := by
  by_cases h0 : M.bz p i = 0
  · exact read_zero p i w hp hi h0
  by_cases h1 : M.bz p i = 1
  · exact read_one p i w hp hi h1
  by_cases h2 : M.bz p i = 2
  · exact read_two p i w hp hi h2
  by_cases h3 : M.bz p i = 3
  · exact read_three p i w hp hi h3
  exact read_more p i w hp hi (by omega)
end Go.Proofs.YtjfmiomopfjecabGreat

/- Pages that are read and written. -/
namespace Go.Proofs.YtjfmiomopfjecabGreat
open Go.RowKit Go.Lib

theorem mk_part (n a m : Nat) (F : Nat → Nat) (h : a + m ≤ n) (hF : ∀ j, F j < 256) : (M.mk m fun j => M.bz (M.mk n F) (a + j)) = M.mk m fun j => F (a + j) :=
  M.mk_congr fun j hj => M.bz_mk (fun _ _ => hF _) (by omega)
section
variable {w : World} {b : Nat} {t : TypeId} {key : ByteArray} {F : Nat → Nat} {on : Bool} {wait next age : Nat}
set_option maxRecDepth 100000 in
theorem flashText_in (h : DevAt w b t key F on wait next age) (hF : ∀ j, F j < 256) (p n : Nat) (k c : Int) (hp : p < 23) (hn : 16 * p + n ≤ 368) (hk : k = p) (hc : c = n) :
    Calls Tryz.prog 112 #[.pointer (some ⟨b, 1, none⟩), .int .i64 k, .int .i64 c] w fun e w' => e = .returned (.string (M.mk n fun j => F (16 * p + j))) ∧ w = w' := by
  subst hk hc
  have HC := flash_cells h
  have HE := hide (mk_part 368 (16 * p) n F hn hF)
  have HZ := hide (M.mk_size 368 F)
  generalize M.mk 368 F = s at *
  go_enter Tryz.func112, Tryz.ntmps112
  go_wp2_with fail
  refine (part_yes_at s _ _ (16 * p) n _ (by rw [HZ.out]; omega) (by rw [HZ.out]; omega) (by omega) rfl).mono ?_
  rintro e w' ⟨rfl, rfl⟩
  rw [HE.out]
  generalize hy : (M.mk n fun j => F (16 * p + j)) = y at *
  have HY := hide hy
  clear hy
  go_wp2
  go_ret
  exact ⟨ret_string HY.out.symm, rfl⟩
theorem flashText_out (w : World) (b : Nat) (k c : Int) (hk : k < 0 ∨ 23 ≤ k) :
    Calls Tryz.prog 112 #[.pointer (some ⟨b, 1, none⟩), .int .i64 k, .int .i64 c] w fun e w' => e = .returned (.string ⟨#[]⟩) ∧ w = w' := by
  rcases hk with h | h
  · go_enter Tryz.func112, Tryz.ntmps112
    go_wp2
    go_ret
    exact ⟨rfl, rfl⟩
  · have h0 : ¬ k < 0 := by omega
    go_enter Tryz.func112, Tryz.ntmps112
    go_wp2
    go_ret
    exact ⟨rfl, rfl⟩
/-- a page's text; none if there is no such page -/
def pageT (F : Nat → Nat) (i : Int) : ByteArray := if 0 ≤ i ∧ i < 23 then M.mk 16 fun j => F (16 * i.toNat + j) else ⟨#[]⟩
theorem flashPage_any (h : DevAt w b t key F on wait next age) (hF : ∀ j, F j < 256) (i : Int) :
    Calls Tryz.prog 79 #[.pointer (some ⟨b, 1, none⟩), .int .i64 i] w fun e w' => e = .returned (.string (pageT F i)) ∧ w = w' := by
  have HH := hide h
  by_cases hi : 0 ≤ i ∧ i < 23
  · have HE : Hid (pageT F i = M.mk 16 fun j => F (16 * i.toNat + j)) := if_pos hi
    go_enter Tryz.func79, Tryz.ntmps79
    go_wp2_with fail
    refine (flashText_in (unhide HH) hF i.toNat 16 _ _ (by omega) (by omega) (by omega) rfl).mono ?_
    rintro e w' ⟨rfl, rfl⟩
    rw [← HE.out]
    generalize hy : pageT F i = y at *
    have HY := hide hy
    clear hy HE
    go_wp2
    go_ret
    exact ⟨ret_string HY.out.symm, rfl⟩
  · have HE : Hid (pageT F i = ⟨#[]⟩) := if_neg hi
    go_enter Tryz.func79, Tryz.ntmps79
    go_wp2_with fail
    refine (flashText_out _ b _ _ (by omega)).mono ?_
    rintro e w' ⟨rfl, rfl⟩
    go_wp2
    go_ret
    exact ⟨ret_string HE.out.symm, rfl⟩
theorem put_succ (F : Nat → Nat) (p : Nat) (s : Nat → Nat) (k : Nat) : M.put F p s (k + 1) = fun i => if i = 16 * p + k then s k else M.put F p s k i := by
  funext i
  unfold M.put
  by_cases e : i = 16 * p + k
  · subst e
    rw [if_pos ⟨by omega, by omega⟩, if_pos rfl, show 16 * p + k - 16 * p = k from by omega]
  · rw [if_neg e]
    by_cases h : 16 * p ≤ i ∧ i < 16 * p + k
    · rw [if_pos h, if_pos ⟨by omega, by omega⟩]
    · rw [if_neg h, if_neg (by omega)]
end
set_option maxRecDepth 10000 in
set_option maxHeartbeats 800000 in
theorem flashPut_any {w : World} {b : Nat} {t : TypeId} {key : ByteArray} {F : Nat → Nat} {on : Bool} {wait next age : Nat} (h : DevAt w b t key F on wait next age) (p : Nat) (s : ByteArray) (n : Int) (hp : p < 23) (hs : s.size ≤ maxLen) :
    Calls Tryz.prog 106 #[.pointer (some ⟨b, 1, none⟩), .agg #[.int .i64 p, .string s], .int .i64 n] w fun e w' => e = .returned (.tuple #[]) ∧ DevAt w' b t key (M.put F p (M.bz s) (M.tornN n)) on wait next age ∧ Only (· = b) w w' := by
  have HL := hide hs
  have hlt := h.lt
  have HD : Hid (DevAt (w.alloc (.cells #[.int .i64 p, .string s] 136)) b t key (M.put F p (M.bz s) 0) on wait next age) := by
    rw [M.put_none]
    exact h.mono ((Below.refl _ _).alloc (Nat.le_refl _) _) hlt
  have HO : Hid (Only (· = b) w (w.alloc (.cells #[.int .i64 p, .string s] 136))) := only_alloc _ _ _
  clear h
  go_enter Tryz.func106, Tryz.ntmps106
  go_wp2_with fail
  go_loopw [6, 7] (fun i _ wr => ∃ k : Nat, k ≤ M.tornN n ∧ i = .int .i64 k ∧ DevAt wr b t key (M.put F p (M.bz s) k) on wait next age ∧ Only (· = b) w wr ∧ wr.cell? ⟨w.heap.size, 0, none⟩ = some (.int .i64 p) ∧ wr.cell? ⟨w.heap.size, 1, none⟩ = some (.string s) ∧ w.heap.size < wr.heap.size) (fun i _ _ => 16 - (intOf i).toNat)
  case atStart => exact ⟨0, by omega, rfl, unhide HD, unhide HO, by simp, by simp, by simp⟩
  case round =>
    obtain ⟨k, hk, rfl, hd, ho, hc0, hc1, hsz⟩ := hrel
    have HK := hide hk
    have hk16 : k ≤ 16 := Nat.le_trans hk (M.tornN_le n)
    have HT : Hid (M.tornN n = min 16 n.toNat) := rfl
    clear hk
    by_cases hlt : (k : Int) < n ∧ k < 16
    · obtain ⟨hl1, hl2⟩ := hlt
      have hl3 : (k : Int) < 16 := by omega
      have b1 := M.bz_lt s k
      have hfz := hd.free (1 + (p * 16 + k))
      have hcl : wr.cell? ⟨b, 1 + (p * 16 + k), none⟩ = some (.int .u8 (M.put F p (M.bz s) k (16 * p + k) : Int)) := by
        have := hd.flash (j := 16 * p + k) (by omega)
        rw [show 1 + (p * 16 + k) = 1 + (16 * p + k) from by omega]; exact this
      have HDV := hide hd
      have HON := hide ho
      clear hd ho
      go_wp2_with fail
      refine (wordByte_nat s k _ (unhide HL)).mono ?_
      rintro e w' ⟨rfl, rfl⟩
      have HPS := hide (put_succ F p (M.bz s) k)
      generalize hy : M.bz s k = y at *
      have HY := hide hy
      clear hy
      have i0 : ¬ ((p : Int) * 16 + (k : Int)) < 0 := by omega
      have i1 : ((p : Int) * 16 + (k : Int)) < 368 := by omega
      have i2 : ((p : Int) * 16 + (k : Int)).toNat = p * 16 + k := by omega
      go_wp2_with fail
      go_region
      have HD2 : Hid (DevAt ((wr.setCell ⟨b, 1 + (p * 16 + k), none⟩ (.int .u8 (y : Int))).drew) b t key (M.put F p (M.bz s) (k + 1)) on wait next age) := by
        rw [HPS.out, show 1 + (p * 16 + k) = 1 + (16 * p + k) from by omega]
        exact ((unhide HDV).put (j := 16 * p + k) (by omega) y).drew
      have HO2 : Hid (Only (· = b) w ((wr.setCell ⟨b, 1 + (p * 16 + k), none⟩ (.int .u8 (y : Int))).drew)) := ((unhide HON).trans (only_set _ _ _ _)).drew
      have hne : ¬ b = w.heap.size := by omega
      have hc0' : ((wr.setCell ⟨b, 1 + (p * 16 + k), none⟩ (.int .u8 (y : Int))).drew).cell? ⟨w.heap.size, 0, none⟩ = some (.int .i64 p) := by
        refine Eq.trans ?_ hc0
        exact World.cell?_setCell_other _ _ _ _ (by intro e; have := congrArg Addr.block e; simp at this; omega)
      have hc1' : ((wr.setCell ⟨b, 1 + (p * 16 + k), none⟩ (.int .u8 (y : Int))).drew).cell? ⟨w.heap.size, 1, none⟩ = some (.string s) := by
        refine Eq.trans ?_ hc1
        exact World.cell?_setCell_other _ _ _ _ (by intro e; have := congrArg Addr.block e; simp at this; omega)
      have hsz' : w.heap.size < ((wr.setCell ⟨b, 1 + (p * 16 + k), none⟩ (.int .u8 (y : Int))).drew).heap.size := by simpa using hsz
      generalize (wr.setCell ⟨b, 1 + (p * 16 + k), none⟩ (.int .u8 (y : Int))).drew = w2 at *
      clear hcl hfz hc0 hc1 HY HDV HON
      go_wp2
      go_roundw
      case rel => exact ⟨k + 1, by rw [HT.out]; omega, by go_num, unhide HD2, unhide HO2, hc0', hc1', hsz'⟩
      case measure => simp [intOf]; omega
    · have HF : Hid (M.tornN n = k) := by have h1 := HT.out; have h2 := HK.out; show _ = _; rw [h1] at h2 ⊢; omega
      have HD2 : Hid (DevAt wr b t key (M.put F p (M.bz s) (M.tornN n)) on wait next age) := by rw [HF.out]; exact hd
      have HO2 := hide ho
      clear hd ho
      by_cases hl : (k : Int) < n
      · have hl3 : ¬ (k : Int) < 16 := by omega
        go_wp2
        refine bodyPost_end (v := .tuple #[]) (by simp [results, Tryz.results106, go_sem]) rfl ⟨rfl, unhide HD2, unhide HO2⟩
      · go_wp2
        refine bodyPost_end (v := .tuple #[]) (by simp [results, Tryz.results106, go_sem]) rfl ⟨rfl, unhide HD2, unhide HO2⟩
/- all pages of an event, one after the other -/
def gwsOf (l : List GW) : List M.Wr := l.map gwOf
theorem gwsOf_length (l : List GW) : (gwsOf l).length = l.length := by simp [gwsOf]
theorem puts_take {F : Nat → Nat} {l : List M.Wr} {k : Nat} (h : k < l.length) : M.puts F (l.take (k + 1)) = M.put (M.puts F (l.take k)) (l[k]).1 (l[k]).2 16 := by
  rw [List.take_succ_eq_append_getElem h, M.puts_append]
  rfl
def lastsB (cut : Int) (n : Nat) : Bool := !decide (0 ≤ cut ∧ cut < n)
def writtenF (F : Nat → Nat) (l : List GW) (cut torn : Int) : Nat → Nat := if 0 ≤ cut ∧ cut < l.length then M.cutAt F (gwsOf l) cut.toNat (M.tornN torn) else M.puts F (gwsOf l)
set_option maxRecDepth 10000 in
set_option maxHeartbeats 800000 in
theorem writeAll_any {w : World} {b : Nat} {t : TypeId} {key : ByteArray} {F : Nat → Nat} {on : Bool} {wait next age : Nat} (h : DevAt w b t key F on wait next age) (v : Value) (l : List GW) (cut torn : Int)
    (hrow : HoldsRow w v l.length (gwCells l)) (hne : v.ownBlock ≠ some b) (hlen : l.length ≤ 1000) (hl : ∀ a ∈ l, a.1 < 23 ∧ a.2.size ≤ maxLen) :
    Calls Tryz.prog 76 #[.pointer (some ⟨b, 1, none⟩), v, .int .i64 cut, .int .i64 torn] w fun e w' =>
      e = .returned (.bool (lastsB cut l.length)) ∧ DevAt w' b t key (writtenF F l cut torn) on wait next age ∧ Only (· = b) w w' := by
  have HH := hide h
  have hlt := h.lt
  obtain ⟨a0, cap, rfl, hcap1, hcap2, hx⟩ := hrow.shape
  have HX := hide hx
  have HNE := hide hne
  have HL := hide hl
  have hcap3 : l.length ≤ cap := hcap1
  unfold maxLen at hcap2
  clear h hrow hne hl hx
  go_enter Tryz.func76, Tryz.ntmps76
  go_wp2_with fail
  go_loopw [9] (fun i wr => ∃ k : Nat, k ≤ l.length ∧ i = .int .i64 k ∧ (∀ j : Nat, j < k → ¬ (j : Int) = cut) ∧ DevAt wr b t key (M.puts F ((gwsOf l).take k)) on wait next age ∧ Only (· = b) w wr) (fun i _ => l.length - (intOf i).toNat)
  case atStart => exact ⟨0, by omega, rfl, fun j hj => by omega, unhide HH, Only.refl _ _⟩
  case round =>
    obtain ⟨k, hk, rfl, hnc, hd, ho⟩ := hrel
    have HNC := hide hnc
    clear hnc
    by_cases hkl : k < l.length
    · obtain ⟨g, rfl, hg, hcell⟩ := unhide HX (by omega)
      have hgb : ¬ g = b := fun e => unhide HNE (by rw [e]; rfl)
      obtain ⟨c0, c1⟩ := gwCells_at hkl
      have e0 := (ho.cell (a := ⟨g, k * 2, none⟩) hg hgb).trans (hcell (k * 2) _ (by rw [Nat.mul_comm]; exact c0))
      have e1 := (ho.cell (a := ⟨g, k * 2 + 1, none⟩) hg hgb).trans (hcell (k * 2 + 1) _ (by rw [Nat.mul_comm]; exact c1))
      have HA := hide (unhide HL _ (List.getElem_mem hkl))
      have hgl : k < (gwsOf l).length := by rw [gwsOf_length]; exact hkl
      have HG : Hid ((gwsOf l)[k] = gwOf l[k]) := by show _ = _; simp [gwsOf]
      have HT : Hid (M.puts F ((gwsOf l).take (k + 1)) = M.put (M.puts F ((gwsOf l).take k)) (l[k]).1 (M.bz (l[k]).2) 16) := by show _ = _; rw [puts_take hgl, HG.out]; rfl
      have HC : Hid (M.cutAt F (gwsOf l) k (M.tornN torn) = M.put (M.puts F ((gwsOf l).take k)) (l[k]).1 (M.bz (l[k]).2) (M.tornN torn)) := by show _ = _; rw [M.cutAt_in hgl, HG.out]; rfl
      generalize (l[k]).1 = p at *
      generalize (l[k]).2 = s at *
      have HDV := hide hd
      have HON := hide ho
      have hi0 : (k : Int) < (l.length : Int) := by omega
      clear hd ho hcell c0 c1 hgl HG
      by_cases hc : (k : Int) = cut
      · subst hc
        have HW : Hid (writtenF F l k torn = M.put (M.puts F ((gwsOf l).take k)) p (M.bz s) (M.tornN torn)) := by
          show _ = _
          unfold writtenF
          rw [if_pos ⟨by omega, by omega⟩, Int.toNat_natCast, HC.out]
        have HB : Hid (false = lastsB k l.length) := by
          show _ = _
          unfold lastsB
          rw [decide_eq_true ⟨by omega, by omega⟩]
          rfl
        go_wp2_with fail
        refine (flashPut_any (unhide HDV) p s torn HA.out.1 HA.out.2).mono ?_
        rintro e w1 ⟨rfl, hd1, ho1⟩
        have HD1 : Hid (DevAt w1 b t key (writtenF F l k torn) on wait next age) := by rw [HW.out]; exact hd1
        have HO1 := hide ((unhide HON).trans ho1)
        clear hd1 ho1 e0 e1
        go_wp2
        go_ret
        exact ⟨ret_bool HB.out, unhide HD1, unhide HO1⟩
      · go_wp2_with fail
        refine (flashPut_any (unhide HDV) p s 16 HA.out.1 HA.out.2).mono ?_
        rintro e w1 ⟨rfl, hd1, ho1⟩
        have HD1 : Hid (DevAt w1 b t key (M.puts F ((gwsOf l).take (k + 1))) on wait next age) := by rw [HT.out]; exact hd1
        have HO1 := hide ((unhide HON).trans ho1)
        have HC2 := hide hc
        clear hd1 ho1 e0 e1 hc
        go_wp2
        go_roundw
        case rel =>
          refine ⟨k + 1, by omega, by go_num, fun j hj => ?_, unhide HD1, unhide HO1⟩
          by_cases e : j = k
          · subst e; exact HC2.out
          · exact HNC.out j (by omega)
        case measure => simp [intOf]; omega
    · have hkn : k = l.length := by omega
      have HW : Hid (writtenF F l cut torn = M.puts F ((gwsOf l).take k)) := by
        show _ = _
        unfold writtenF
        rw [if_neg, hkn, ← gwsOf_length, List.take_length]
        rintro ⟨h0, h1⟩
        exact HNC.out cut.toNat (by omega) (by omega)
      have HB : Hid (true = lastsB cut l.length) := by
        show _ = _
        unfold lastsB
        rw [decide_eq_false]
        · rfl
        · rintro ⟨h0, h1⟩
          exact HNC.out cut.toNat (by omega) (by omega)
      have HD1 : Hid (DevAt wr b t key (writtenF F l cut torn) on wait next age) := by rw [HW.out]; exact hd
      have HO1 := hide ho
      have hi0 : ¬ (k : Int) < (l.length : Int) := by omega
      clear hd ho hkn HW
      go_wp2
      go_ret
      exact ⟨ret_bool HB.out, unhide HD1, unhide HO1⟩
end Go.Proofs.YtjfmiomopfjecabGreat

/- Records: how they are read, and what the next one is. -/
namespace Go.Proofs.YtjfmiomopfjecabGreat
open Go.RowKit Go.Lib

/-- a record in memory: its page, its number, the kept slot, the phase, the tries, each slot's length and version, the chunks that are there -/
abbrev recV (pg num kp ph tr s0 v0 s1 v1 th : Int) : Value := .agg #[.int .i64 pg, .int .i64 num, .int .i64 kp, .int .i64 ph, .int .i64 tr, .int .i64 s0, .int .i64 v0, .int .i64 s1, .int .i64 v1, .int .i64 th]
theorem ret_rec {a0 a1 a2 a3 a4 a5 a6 a7 a8 a9 b0 b1 b2 b3 b4 b5 b6 b7 b8 b9 : Int} (h0 : a0 = b0) (h1 : a1 = b1) (h2 : a2 = b2) (h3 : a3 = b3) (h4 : a4 = b4) (h5 : a5 = b5) (h6 : a6 = b6) (h7 : a7 = b7) (h8 : a8 = b8) (h9 : a9 = b9) :
    Ending.returned (recV a0 a1 a2 a3 a4 a5 a6 a7 a8 a9) = .returned (recV b0 b1 b2 b3 b4 b5 b6 b7 b8 b9) := by rw [h0, h1, h2, h3, h4, h5, h6, h7, h8, h9]
theorem recWhole_any (s : ByteArray) (w : World) (hs : s.size ≤ maxLen) :
    Calls Tryz.prog 174 #[.string s] w fun e w' => e = .returned (.bool (decide (M.bz s 0 = M.bz s 15))) ∧ w = w' := by
  have HL := hide hs
  have HE : Hid (((M.bz s 0 : Int) == (M.bz s 15 : Int)) = decide (M.bz s 0 = M.bz s 15)) := by show _ = _; rw [Bool.eq_iff_iff]; simp; omega
  go_enter Tryz.func174, Tryz.ntmps174
  go_wp2_with fail
  refine (wordByte_at s _ 0 _ (unhide HL) rfl).mono ?_
  rintro e w' ⟨rfl, rfl⟩
  go_wp2_with fail
  refine (wordByte_at s _ 15 _ (unhide HL) rfl).mono ?_
  rintro e w' ⟨rfl, rfl⟩
  generalize hx : M.bz s 0 = x at *
  generalize hy : M.bz s 15 = y at *
  have HX := hide hx
  have HY := hide hy
  clear hx hy
  go_wp2
  go_ret
  exact ⟨ret_bool (by rw [HX.out, HY.out]; exact HE.out), rfl⟩
def followsB (a b : ByteArray) : Bool := decide (M.bz b 0 = M.bz b 15 ∧ (M.bz a 0 ≠ M.bz a 15 ∨ M.bz b 0 = (M.bz a 0 + 1) % 256))
theorem recFollows_any (a b : ByteArray) (w : World) (ha : a.size ≤ maxLen) (hb : b.size ≤ maxLen) :
    Calls Tryz.prog 140 #[.string a, .string b] w fun e w' => e = .returned (.bool (followsB a b)) ∧ w = w' := by
  have HA := hide ha
  have HB := hide hb
  have b0 := M.bz_lt a 0
  by_cases h1 : M.bz b 0 = M.bz b 15
  · by_cases h2 : M.bz a 0 = M.bz a 15
    · have HE : Hid (followsB a b = ((((M.bz a 0 + 1) % 256 : Nat) : Int) == (M.bz b 0 : Int))) := by
        show _ = _
        unfold followsB
        rw [Bool.eq_iff_iff]
        simp [h1, h2]
        omega
      go_enter Tryz.func140, Tryz.ntmps140
      go_wp2_with fail
      refine (recWhole_any b _ (unhide HB)).mono ?_
      rintro e w' ⟨rfl, rfl⟩
      rw [decide_eq_true h1]
      go_wp2_with fail
      refine (recWhole_any a _ (unhide HA)).mono ?_
      rintro e w' ⟨rfl, rfl⟩
      rw [decide_eq_true h2]
      go_wp2_with fail
      refine (wordByte_at a _ 0 _ (unhide HA) rfl).mono ?_
      rintro e w' ⟨rfl, rfl⟩
      clear h2
      go_wp2_with fail
      refine (wordByte_at b _ 0 _ (unhide HB) rfl).mono ?_
      rintro e w' ⟨rfl, rfl⟩
      clear h1
      generalize hx : M.bz a 0 = x at *
      generalize hy : M.bz b 0 = y at *
      clear hx hy
      have HX := hide HE
      clear HE
      go_wp2
      go_ret
      exact ⟨ret_bool (by rw [(unhide HX).out]; congr 1), rfl⟩
    · have HE : Hid (followsB a b = true) := by
        show _ = _
        unfold followsB
        exact decide_eq_true ⟨h1, .inl h2⟩
      go_enter Tryz.func140, Tryz.ntmps140
      go_wp2_with fail
      refine (recWhole_any b _ (unhide HB)).mono ?_
      rintro e w' ⟨rfl, rfl⟩
      rw [decide_eq_true h1]
      go_wp2_with fail
      refine (recWhole_any a _ (unhide HA)).mono ?_
      rintro e w' ⟨rfl, rfl⟩
      rw [decide_eq_false h2]
      go_wp2
      go_ret
      exact ⟨ret_bool HE.out.symm, rfl⟩
  · have HE : Hid (followsB a b = false) := by
      show _ = _
      unfold followsB
      exact decide_eq_false (fun h => h1 h.1)
    go_enter Tryz.func140, Tryz.ntmps140
    go_wp2_with fail
    refine (recWhole_any b _ (unhide HB)).mono ?_
    rintro e w' ⟨rfl, rfl⟩
    rw [decide_eq_false h1]
    go_wp2
    go_ret
    exact ⟨ret_bool HE.out.symm, rfl⟩
/-- the record that a page's text tells -/
abbrev recT (pg : Nat) (s : ByteArray) : Value := recV pg (M.bz s 0) (M.bz s 1) (M.bz s 2) (M.bz s 3) (M.bz s 4) (M.bz s 6 * 256 + M.bz s 7 : Nat) (M.bz s 5) (M.bz s 8 * 256 + M.bz s 9 : Nat) (M.bz s 10)
set_option maxRecDepth 10000 in
theorem recRead_any (pg : Nat) (s : ByteArray) (w : World) (hs : s.size ≤ maxLen) :
    Calls Tryz.prog 141 #[.int .i64 pg, .string s] w fun e w' => e = .returned (recT pg s) ∧ Below w.heap.size w w' := by
  have HL := hide hs
  go_enter Tryz.func141, Tryz.ntmps141
  go_wp2_with fail
  refine (wordByte_at s _ 0 _ (unhide HL) rfl).mono ?_
  rintro e w' ⟨rfl, rfl⟩
  go_wp2_with fail
  refine (wordByte_at s _ 1 _ (unhide HL) rfl).mono ?_
  rintro e w' ⟨rfl, rfl⟩
  go_wp2_with fail
  refine (wordByte_at s _ 2 _ (unhide HL) rfl).mono ?_
  rintro e w' ⟨rfl, rfl⟩
  go_wp2_with fail
  refine (wordByte_at s _ 3 _ (unhide HL) rfl).mono ?_
  rintro e w' ⟨rfl, rfl⟩
  go_wp2_with fail
  refine (wordByte_at s _ 4 _ (unhide HL) rfl).mono ?_
  rintro e w' ⟨rfl, rfl⟩
  go_wp2_with fail
  refine (wordNumber_any s _ 6 _ (unhide HL) rfl (by omega)).mono ?_
  rintro e w' ⟨rfl, rfl⟩
  go_wp2_with fail
  refine (wordByte_at s _ 5 _ (unhide HL) rfl).mono ?_
  rintro e w' ⟨rfl, rfl⟩
  go_wp2_with fail
  refine (wordNumber_any s _ 8 _ (unhide HL) rfl (by omega)).mono ?_
  rintro e w' ⟨rfl, rfl⟩
  go_wp2_with fail
  refine (wordByte_at s _ 10 _ (unhide HL) rfl).mono ?_
  rintro e w' ⟨rfl, rfl⟩
  go_wp2
  refine bodyPost_ret (v := recT pg s) (by simp [results, Tryz.results141, go_sem]) rfl ⟨rfl, ?_⟩
  exact (Below.refl _ _).alloc (Nat.le_refl _) _
set_option maxRecDepth 10000 in
theorem recNext_any (pg num kp ph tr s0 v0 s1 v1 th : Nat) (w : World) (hp : pg ≤ 1) (hn : num < 256) :
    Calls Tryz.prog 189 #[recV pg num kp ph tr s0 v0 s1 v1 th] w fun e w' => e = .returned (recV (1 - pg : Nat) ((num + 1) % 256 : Nat) kp ph tr s0 v0 s1 v1 th) ∧ Below w.heap.size w w' := by
  go_enter Tryz.func189, Tryz.ntmps189
  go_wp2
  refine bodyPost_ret (v := recV (1 - (pg : Int)) (((num : Int) + 1) % 256) kp ph tr s0 v0 s1 v1 th) (by simp [results, Tryz.results189, go_sem]) rfl ⟨ret_rec (by omega) (by omega) rfl rfl rfl rfl rfl rfl rfl rfl, ?_⟩
  exact ((Below.refl _ _).alloc (Nat.le_refl _) _).alloc (by simp) _
theorem two_alloc {w w' : World} {o1 o2 : Obj} (h : Below (w.heap.size + 2) ((w.alloc o1).alloc o2) w') : Below w.heap.size w w' :=
  (((Below.refl _ _).alloc (Nat.le_refl _) _).alloc (by simp) _).trans (h.mono (by omega))
theorem last_block (w : World) (o : Obj) {n : Nat} (h : n = w.heap.size) : (w.alloc o).heap[n]? = some o := by subst h; exact heap_alloc_last w o
theorem first_block (w : World) (o o2 : Obj) : ((w.alloc o).alloc o2).heap[w.heap.size]? = some o := (Below.heap_alloc _ _ _ (by simp)).trans (heap_alloc_last w o)
theorem block_facts {w : World} {g : Nat} {c : Array Value} {t : TypeId} (h : w.heap[g]? = some (.cells c t (0, 0))) : (∀ o, w.cell? ⟨g, o, none⟩ = c[o]?) ∧ ∀ o, w.frozen? ⟨g, o, none⟩ = false := by
  refine ⟨fun o => cell_in h o, fun o => ?_⟩
  unfold World.frozen?
  rw [h]
  simp
set_option maxRecDepth 10000 in
theorem recPhase_any (pg num kp ph tr s0 v0 s1 v1 th p q : Nat) (w : World) (hp : pg ≤ 1) (hn : num < 256) :
    Calls Tryz.prog 183 #[recV pg num kp ph tr s0 v0 s1 v1 th, .int .i64 p, .int .i64 q] w fun e w' => e = .returned (recV (1 - pg : Nat) ((num + 1) % 256 : Nat) kp p q s0 v0 s1 v1 0) ∧ Below w.heap.size w w' := by
  go_enter Tryz.func183, Tryz.ntmps183
  go_wp2_with fail
  refine (recNext_any pg num kp ph tr s0 v0 s1 v1 th _ hp hn).mono ?_
  rintro e w1 ⟨rfl, hb⟩
  have HB : Hid (Below w.heap.size w w1) := two_alloc (hb.mono (by simp))
  obtain ⟨hz, hfz⟩ := block_facts ((hb.block (w.heap.size + 1) (by simp)).trans (last_block _ _ (by simp)))
  have hsz := hb.size
  simp only [World.size_alloc] at hsz
  have hs1 : w.heap.size + 1 < w1.heap.size := by omega
  have hn1 : ¬ w.heap.size + 1 = w1.heap.size := by omega
  clear hb hsz
  generalize hN : (num + 1) % 256 = N at *
  generalize hP : 1 - pg = P at *
  have HN := hide hN
  have HP := hide hP
  clear hN hP
  go_wp2
  refine bodyPost_ret (v := recV P N kp p q s0 v0 s1 v1 0) (by simp [results, Tryz.results183, go_sem, hz, hs1]) rfl ⟨ret_rec (by rw [HP.out]) (by rw [HN.out]) rfl rfl rfl rfl rfl rfl rfl rfl, ?_⟩
  · refine Below.alloc ?_ (by simp; omega) _
    iterate 10 refine Below.setCell ?_ (by simp) _
    exact unhide HB
set_option maxRecDepth 10000 in
theorem recSteady_any (pg num kp ph tr s0 v0 s1 v1 th : Nat) (w : World) (hp : pg ≤ 1) (hn : num < 256) :
    Calls Tryz.prog 164 #[recV pg num kp ph tr s0 v0 s1 v1 th] w fun e w' => e = .returned (recV (1 - pg : Nat) ((num + 1) % 256 : Nat) kp 0 0 s0 v0 s1 v1 0) ∧ Below w.heap.size w w' := by
  go_enter Tryz.func164, Tryz.ntmps164
  go_wp2_with fail
  refine (recPhase_any pg num kp ph tr s0 v0 s1 v1 th 0 0 _ hp hn).mono ?_
  rintro e w1 ⟨rfl, hb⟩
  have HB : Hid (Below w.heap.size w w1) := two_alloc (hb.mono (by simp))
  obtain ⟨hz, hfz⟩ := block_facts ((hb.block (w.heap.size + 1) (by simp)).trans (last_block _ _ (by simp)))
  have hsz := hb.size
  simp only [World.size_alloc] at hsz
  have hs1 : w.heap.size + 1 < w1.heap.size := by omega
  have hn1 : ¬ w.heap.size + 1 = w1.heap.size := by omega
  clear hb hsz
  generalize hN : (num + 1) % 256 = N at *
  generalize hP : 1 - pg = P at *
  have HN := hide hN
  have HP := hide hP
  clear hN hP
  go_wp2
  refine bodyPost_ret (v := recV P N kp 0 0 s0 v0 s1 v1 0) (by simp [results, Tryz.results164, go_sem, hz]) rfl ⟨ret_rec (by rw [HP.out]) (by rw [HN.out]) rfl rfl rfl rfl rfl rfl rfl rfl, ?_⟩
  · iterate 10 refine Below.setCell ?_ (by simp) _
    exact unhide HB
set_option maxRecDepth 10000 in
theorem recFetching_any (pg num kp ph tr s0 v0 s1 v1 th : Nat) (w : World) (hp : pg ≤ 1) (hn : num < 256) :
    Calls Tryz.prog 165 #[recV pg num kp ph tr s0 v0 s1 v1 th] w fun e w' => e = .returned (recV (1 - pg : Nat) ((num + 1) % 256 : Nat) kp 1 0 s0 v0 s1 v1 0) ∧ Below w.heap.size w w' := by
  go_enter Tryz.func165, Tryz.ntmps165
  go_wp2_with fail
  refine (recPhase_any pg num kp ph tr s0 v0 s1 v1 th 1 0 _ hp hn).mono ?_
  rintro e w1 ⟨rfl, hb⟩
  have HB : Hid (Below w.heap.size w w1) := two_alloc (hb.mono (by simp))
  obtain ⟨hz, hfz⟩ := block_facts ((hb.block (w.heap.size + 1) (by simp)).trans (last_block _ _ (by simp)))
  have hsz := hb.size
  simp only [World.size_alloc] at hsz
  have hs1 : w.heap.size + 1 < w1.heap.size := by omega
  have hn1 : ¬ w.heap.size + 1 = w1.heap.size := by omega
  clear hb hsz
  generalize hN : (num + 1) % 256 = N at *
  generalize hP : 1 - pg = P at *
  have HN := hide hN
  have HP := hide hP
  clear hN hP
  go_wp2
  refine bodyPost_ret (v := recV P N kp 1 0 s0 v0 s1 v1 0) (by simp [results, Tryz.results165, go_sem, hz]) rfl ⟨ret_rec (by rw [HP.out]) (by rw [HN.out]) rfl rfl rfl rfl rfl rfl rfl rfl, ?_⟩
  · iterate 10 refine Below.setCell ?_ (by simp) _
    exact unhide HB
end Go.Proofs.YtjfmiomopfjecabGreat

/- Records: what they tell, and those that follow them. -/
namespace Go.Proofs.YtjfmiomopfjecabGreat
open Go.RowKit Go.Lib

theorem M.or_i64 (a b : Nat) (ha : a < 9223372036854775808) (hb : b < 9223372036854775808) : bits .or .i64 (a : Int) (b : Int) = ((a ||| b : Nat) : Int) := by
  have hx : a ||| b < 2 ^ 63 := Nat.or_lt_two_pow (by omega) (by omega)
  show IntKind.i64.wrap ((BitVec.ofInt 64 (a : Int) ||| BitVec.ofInt 64 (b : Int)).toNat : Int) = _
  rw [BitVec.toNat_or, M.ofInt_i64 a ha, M.ofInt_i64 b hb, IntKind.wrap_i64]
  omega
set_option maxRecDepth 1000000 in
set_option maxHeartbeats 4000000 in
theorem bits_all : ∀ i, i < 6 → ∀ x, x < 256 → ((x &&& 2 ^ i ≠ 0) ↔ x / 2 ^ i % 2 = 1) ∧ (x / 2 ^ i % 2 ≠ 1 → x ||| 2 ^ i = x + 2 ^ i) := by decide
theorem or_bit {x i : Nat} (hx : x < 256) (hi : i < 6) (h : x / 2 ^ i % 2 ≠ 1) : x ||| 2 ^ i = x + 2 ^ i := (bits_all i hi x hx).2 h
theorem and_bit {x i : Nat} (hx : x < 256) (hi : i < 6) : (x &&& 2 ^ i ≠ 0) ↔ x / 2 ^ i % 2 = 1 := (bits_all i hi x hx).1
theorem recBit_any (i : Nat) (w : World) (hi : i < 6) :
    Calls Tryz.prog 143 #[.int .i64 i] w fun e w' => e = .returned (.int .i64 (2 ^ i : Nat)) ∧ w = w' := by
  have hc : i = 0 ∨ i = 1 ∨ i = 2 ∨ i = 3 ∨ i = 4 ∨ i = 5 := by omega
  rcases hc with rfl | rfl | rfl | rfl | rfl | rfl
  all_goals
    go_enter Tryz.func143, Tryz.ntmps143
    go_wp2
    go_ret
    exact ⟨rfl, rfl⟩
set_option maxRecDepth 10000 in
theorem recHas_any (pg num kp ph tr s0 v0 s1 v1 th i : Nat) (w : World) (hth : th < 256) (hi : i < 6) :
    Calls Tryz.prog 116 #[recV pg num kp ph tr s0 v0 s1 v1 th, .int .i64 i] w fun e w' => e = .returned (.bool (decide (th / 2 ^ i % 2 = 1))) ∧ Below w.heap.size w w' := by
  have hB : 2 ^ i < 256 := Nat.lt_of_lt_of_le (Nat.pow_lt_pow_right (by omega) hi) (by decide)
  have HE : Hid ((((th &&& 2 ^ i : Nat) : Int) != 0) = decide (th / 2 ^ i % 2 = 1)) := by
    show _ = _
    rw [Bool.eq_iff_iff, decide_eq_true_iff, ← and_bit hth hi]
    simp
  have hand := M.and_i64 th (2 ^ i) (by omega) (by omega)
  have hbit := hide (fun W => recBit_any i W hi)
  generalize 2 ^ i = B at *
  go_enter Tryz.func116, Tryz.ntmps116
  go_wp2_with fail
  go_region_held3 (fun W => W.cell? ⟨w.heap.size, 9, none⟩ = some (.int .i64 th)) (go_keep) ((go_at_call 143; refine (unhide hbit _).mono ?_; rintro e w' ⟨rfl, rfl⟩))
  all_goals
    go_wp2
    go_ret
    exact ⟨ret_bool HE.out, ((Below.refl _ _).alloc (Nat.le_refl _) _).drew⟩
theorem one_alloc {w w' : World} {o1 : Obj} (h : Below (w.heap.size + 1) (w.alloc o1) w') : Below w.heap.size w w' :=
  ((Below.refl _ _).alloc (Nat.le_refl _) _).trans (h.mono (by omega))
theorem recOther_any (pg num kp ph tr s0 v0 s1 v1 th : Nat) (w : World) (hk : kp ≤ 1) :
    Calls Tryz.prog 114 #[recV pg num kp ph tr s0 v0 s1 v1 th] w fun e w' => e = .returned (.int .i64 (1 - kp : Nat)) ∧ Below w.heap.size w w' := by
  go_enter Tryz.func114, Tryz.ntmps114
  go_wp2
  go_ret
  exact ⟨ret_int (by omega), (Below.refl _ _).alloc (Nat.le_refl _) _⟩
theorem recServed_any (pg num kp ph tr s0 v0 s1 v1 th : Nat) (w : World) (hk : kp ≤ 1) :
    Calls Tryz.prog 82 #[recV pg num kp ph tr s0 v0 s1 v1 th] w fun e w' => e = .returned (.int .i64 (if ph = 2 then 1 - kp else kp : Nat)) ∧ Below w.heap.size w w' := by
  by_cases h : ph = 2
  · have h2 : (ph : Int) = 2 := by omega
    go_enter Tryz.func82, Tryz.ntmps82
    go_wp2_with fail
    refine (recOther_any pg num kp 2 tr s0 v0 s1 v1 th _ hk).mono ?_
    rintro e w1 ⟨rfl, hb⟩
    have HB : Hid (Below w.heap.size w w1) := one_alloc (hb.mono (by simp))
    clear hb
    generalize hx : 1 - kp = x at *
    have HX := hide hx
    clear hx
    go_wp2
    go_ret
    exact ⟨ret_int (by rw [HX.out]), unhide HB⟩
  · have h2 : ¬ (ph : Int) = 2 := by omega
    go_enter Tryz.func82, Tryz.ntmps82
    go_wp2
    go_ret
    exact ⟨rfl, (Below.refl _ _).alloc (Nat.le_refl _) _⟩
set_option maxRecDepth 10000 in
theorem recSlot_any (pg num kp ph tr s0 v0 s1 v1 th i : Nat) (w : World) :
    Calls Tryz.prog 81 #[recV pg num kp ph tr s0 v0 s1 v1 th, .int .i64 i] w fun e w' => e = .returned (.agg #[.int .i64 (if i = 0 then s0 else s1 : Nat), .int .i64 (if i = 0 then v0 else v1 : Nat)]) ∧ Below w.heap.size w w' := by
  by_cases h : i = 0
  · subst h
    rw [if_pos rfl, if_pos rfl]
    go_enter Tryz.func81, Tryz.ntmps81
    go_wp2
    refine bodyPost_ret (v := .agg #[.int .i64 s0, .int .i64 v0]) (by simp [results, Tryz.results81, go_sem]) rfl ⟨rfl, ?_⟩
    exact ((Below.refl _ _).alloc (Nat.le_refl _) _).alloc (by simp) _
  · rw [if_neg h, if_neg h]
    have h2 : ¬ (i : Int) = 0 := by omega
    go_enter Tryz.func81, Tryz.ntmps81
    go_wp2
    refine bodyPost_ret (v := .agg #[.int .i64 s1, .int .i64 v1]) (by simp [results, Tryz.results81, go_sem]) rfl ⟨rfl, ?_⟩
    exact ((Below.refl _ _).alloc (Nat.le_refl _) _).alloc (by simp) _
set_option maxRecDepth 10000 in
theorem recFirst_any (s v : Nat) (w : World) :
    Calls Tryz.prog 74 #[.agg #[.int .i64 s, .int .i64 v]] w fun e w' => e = .returned (recV 0 1 0 0 0 s v 0 0 0) ∧ Below w.heap.size w w' := by
  go_enter Tryz.func74, Tryz.ntmps74
  go_wp2
  refine bodyPost_ret (v := recV 0 1 0 0 0 s v 0 0 0) (by simp [results, Tryz.results74, go_sem]) rfl ⟨rfl, ?_⟩
  exact ((Below.refl _ _).alloc (Nat.le_refl _) _).alloc (by simp) _
theorem recPhase_at (pg num kp ph tr s0 v0 s1 v1 th p q : Nat) (k : Int) (w : World) (hp : pg ≤ 1) (hn : num < 256) (hk : k = q) :
    Calls Tryz.prog 183 #[recV pg num kp ph tr s0 v0 s1 v1 th, .int .i64 p, .int .i64 k] w fun e w' => e = .returned (recV (1 - pg : Nat) ((num + 1) % 256 : Nat) kp p q s0 v0 s1 v1 0) ∧ Below w.heap.size w w' := by
  subst hk
  exact recPhase_any pg num kp ph tr s0 v0 s1 v1 th p q w hp hn
def standT (a b : ByteArray) : Value := if followsB a b = true then recT 1 b else recT 0 a
set_option maxRecDepth 10000 in
theorem recStanding_any (a b : ByteArray) (w : World) (ha : a.size ≤ maxLen) (hb : b.size ≤ maxLen) :
    Calls Tryz.prog 113 #[.string a, .string b] w fun e w' => e = .returned (standT a b) ∧ Below w.heap.size w w' := by
  have HA := hide ha
  have HBs := hide hb
  have HF := hide (fun W => recFollows_any a b W ha hb)
  cases hf : followsB a b
  · have HE : Hid (recT 0 a = standT a b) := by show _ = _; unfold standT; rw [hf]; rfl
    go_enter Tryz.func113, Tryz.ntmps113
    go_wp2_with fail
    refine (unhide HF _).mono ?_
    rintro e w' ⟨rfl, rfl⟩
    rw [hf]
    go_wp2_with fail
    refine (recRead_any 0 a _ (unhide HA)).mono ?_
    rintro e w1 ⟨rfl, hb⟩
    have HB : Hid (Below w.heap.size w w1) := one_alloc (hb.mono (by simp))
    obtain ⟨hz, hfz⟩ := block_facts ((hb.block w.heap.size (by simp)).trans (last_block _ _ rfl))
    clear hb
    go_wp2
    refine bodyPost_ret (v := recT 0 a) (by simp [results, Tryz.results113, go_sem, hz]) rfl ⟨by rw [HE.out], ?_⟩
    · iterate 10 refine Below.setCell ?_ (by simp) _
      exact unhide HB
  · have HE : Hid (recT 1 b = standT a b) := by show _ = _; unfold standT; rw [hf]; rfl
    go_enter Tryz.func113, Tryz.ntmps113
    go_wp2_with fail
    refine (unhide HF _).mono ?_
    rintro e w' ⟨rfl, rfl⟩
    rw [hf]
    go_wp2_with fail
    refine (recRead_any 1 b _ (unhide HBs)).mono ?_
    rintro e w1 ⟨rfl, hb⟩
    have HB : Hid (Below w.heap.size w w1) := one_alloc (hb.mono (by simp))
    obtain ⟨hz, hfz⟩ := block_facts ((hb.block w.heap.size (by simp)).trans (last_block _ _ rfl))
    clear hb
    go_wp2
    refine bodyPost_ret (v := recT 1 b) (by simp [results, Tryz.results113, go_sem, hz]) rfl ⟨by rw [HE.out], ?_⟩
    · iterate 10 refine Below.setCell ?_ (by simp) _
      exact unhide HB
set_option maxRecDepth 10000 in
theorem recTried_any (pg num kp ph tr s0 v0 s1 v1 th p q : Nat) (w : World) (hp : pg ≤ 1) (hn : num < 256) (ht : tr < 256) (hpq : if tr = 0 then p = 0 ∧ q = 0 else p = 2 ∧ q = tr - 1) :
    Calls Tryz.prog 157 #[recV pg num kp ph tr s0 v0 s1 v1 th] w fun e w' => e = .returned (recV (1 - pg : Nat) ((num + 1) % 256 : Nat) kp p q s0 v0 s1 v1 0) ∧ Below w.heap.size w w' := by
  by_cases h0 : tr = 0
  · rw [if_pos h0] at hpq
    obtain ⟨rfl, rfl⟩ := hpq
    subst h0
    go_enter Tryz.func157, Tryz.ntmps157
    go_wp2_with fail
    refine (recSteady_any pg num kp ph 0 s0 v0 s1 v1 th _ hp hn).mono ?_
    rintro e w1 ⟨rfl, hb⟩
    have HB : Hid (Below w.heap.size w w1) := two_alloc (hb.mono (by simp))
    obtain ⟨hz, hfz⟩ := block_facts ((hb.block (w.heap.size + 1) (by simp)).trans (last_block _ _ (by simp)))
    obtain ⟨hy, hfy⟩ := block_facts ((hb.block w.heap.size (by simp; omega)).trans (first_block _ _ _))
    have hsz := hb.size
    simp only [World.size_alloc] at hsz
    have hs1 : w.heap.size + 1 < w1.heap.size := by omega
    have hs0 : w.heap.size < w1.heap.size := by omega
    have hn1 : ¬ w.heap.size + 1 = w1.heap.size := by omega
    have hn0 : ¬ w.heap.size = w1.heap.size := by omega
    clear hb hsz
    generalize hN : (num + 1) % 256 = N at *
    generalize hP : 1 - pg = P at *
    have HN := hide hN
    have HP := hide hP
    clear hN hP
    go_wp2
    refine bodyPost_ret (v := recV P N kp 0 0 s0 v0 s1 v1 0) (by simp [results, Tryz.results157, go_sem, hz]) rfl ⟨ret_rec (by rw [HP.out]) (by rw [HN.out]) rfl rfl rfl rfl rfl rfl rfl rfl, ?_⟩
    · iterate 10 refine Below.setCell ?_ (by simp) _
      exact unhide HB
  · rw [if_neg h0] at hpq
    obtain ⟨rfl, rfl⟩ := hpq
    have h2 : ¬ (tr : Int) = 0 := by omega
    go_enter Tryz.func157, Tryz.ntmps157
    go_wp2_with fail
    refine (recPhase_at pg num kp ph tr s0 v0 s1 v1 th 2 (tr - 1) _ _ hp hn (by omega)).mono ?_
    rintro e w1 ⟨rfl, hb⟩
    have HB : Hid (Below w.heap.size w w1) := two_alloc (hb.mono (by simp))
    obtain ⟨hz, hfz⟩ := block_facts ((hb.block (w.heap.size + 1) (by simp)).trans (last_block _ _ (by simp)))
    obtain ⟨hy, hfy⟩ := block_facts ((hb.block w.heap.size (by simp; omega)).trans (first_block _ _ _))
    have hsz := hb.size
    simp only [World.size_alloc] at hsz
    have hs1 : w.heap.size + 1 < w1.heap.size := by omega
    have hs0 : w.heap.size < w1.heap.size := by omega
    have hn1 : ¬ w.heap.size + 1 = w1.heap.size := by omega
    have hn0 : ¬ w.heap.size = w1.heap.size := by omega
    clear hb hsz
    generalize hN : (num + 1) % 256 = N at *
    generalize hP : 1 - pg = P at *
    have HN := hide hN
    have HP := hide hP
    clear hN hP
    generalize hT : tr - 1 = T at *
    have HT := hide hT
    clear hT
    go_wp2
    refine bodyPost_ret (v := recV P N kp 2 T s0 v0 s1 v1 0) (by simp [results, Tryz.results157, go_sem, hz]) rfl ⟨ret_rec (by rw [HP.out]) (by rw [HN.out]) rfl rfl (by rw [HT.out]) rfl rfl rfl rfl rfl, ?_⟩
    · iterate 10 refine Below.setCell ?_ (by simp) _
      exact unhide HB
end Go.Proofs.YtjfmiomopfjecabGreat

/- The page of a record; the records of chunks, of trials and of what is confirmed. -/
namespace Go.Proofs.YtjfmiomopfjecabGreat
open Go.RowKit Go.Lib

theorem numText_run (w : World) (n : Nat) :
    (convert 79 9 (.slice (some ⟨w.heap.size, 0, none⟩) 2 2)).run Tryz.prog (w.alloc (.cells #[.int .u8 (n / 256 : Nat), .int .u8 (n % 256 : Nat)] 5)) =
      .ok (.string (M.bytesOf [n / 256, n % 256])) (w.alloc (.cells #[.int .u8 (n / 256 : Nat), .int .u8 (n % 256 : Nat)] 5)) := text_run w [((n / 256 : Nat) : Int), ((n % 256 : Nat) : Int)] 2 rfl
theorem numSplit_any (n : Nat) (w : World) (h : n ≤ 65535) :
    Calls Tryz.prog 156 #[.int .i64 n] w fun e w' => e = .returned (.tuple #[.int .i64 (n / 256 : Nat), .int .i64 (n % 256 : Nat)]) ∧ w = w' := by
  go_enter Tryz.func156, Tryz.ntmps156
  go_wp2
  go_ret2
  exact ⟨ret_pair (by omega) (by omega), rfl⟩
theorem numText_any (n : Nat) (w : World) (h : n ≤ 65535) :
    Calls Tryz.prog 131 #[.int .i64 n] w fun e w' => e = .returned (.string (M.bytesOf [n / 256, n % 256])) ∧ Below w.heap.size w w' := by
  have hr := numText_run w n
  have h1 : n / 256 < 256 := by omega
  have h2 : n % 256 < 256 := by omega
  go_enter Tryz.func131, Tryz.ntmps131
  go_wp2_with fail
  refine (numSplit_any n _ h).mono ?_
  rintro e w' ⟨rfl, rfl⟩
  generalize hx : n / 256 = x at *
  generalize hy : n % 256 = y at *
  have HX := hide hx
  have HY := hide hy
  clear hx hy
  go_wp2
  go_ret
  exact ⟨ret_string (by rw [HX.out, HY.out]), (Below.refl _ _).alloc (Nat.le_refl _) _⟩
def numT (n : Nat) : ByteArray := M.bytesOf [n / 256, n % 256]
theorem numT_size (n : Nat) : (numT n).size = 2 := rfl
theorem numText_cum {w0 : World} {B : Nat} (v : Int) (W : World) (h0 : 0 ≤ v) (h1 : v ≤ 65535) (hB : B ≤ W.heap.size) (hW : Below B w0 W) :
    Calls Tryz.prog 131 #[.int .i64 v] W fun e w' => e = .returned (.string (numT v.toNat)) ∧ Below B w0 w' ∧ B ≤ w'.heap.size := by
  obtain ⟨n, rfl⟩ := Int.eq_ofNat_of_zero_le h0
  rw [Int.toNat_natCast]
  exact (numText_any n W (by omega)).mono fun _ _ ⟨a, b⟩ => ⟨a, hW.trans (b.mono hB), Nat.le_trans hB b.size⟩
/-- the page of a record -/
def recP (num kp ph tr s0 v0 s1 v1 th : Nat) : ByteArray := M.mk 16 (M.recB num kp ph tr s0 s1 (v0 / 256) (v0 % 256) (v1 / 256) (v1 % 256) th)
theorem recP_is (num kp ph tr s0 v0 s1 v1 th : Nat) : M.bytesOf [num, kp, ph, tr, s0, s1] ++ (M.bytesOf [v0 / 256, v0 % 256] ++ M.bytesOf [v1 / 256, v1 % 256]) ++ M.bytesOf [th, 0, 0, 0, 0, num] = recP num kp ph tr s0 v0 s1 v1 th := by
  rw [M.bytesOf_append, M.bytesOf_append, M.bytesOf_append]
  rfl
theorem six_run (w : World) (a b c d e f : Nat) :
    (convert 79 9 (.slice (some ⟨w.heap.size, 0, none⟩) 6 6)).run Tryz.prog (w.alloc (.cells #[.int .u8 (a : Int), .int .u8 (b : Int), .int .u8 (c : Int), .int .u8 (d : Int), .int .u8 (e : Int), .int .u8 (f : Int)] 5)) =
      .ok (.string (M.bytesOf [a, b, c, d, e, f])) (w.alloc (.cells #[.int .u8 (a : Int), .int .u8 (b : Int), .int .u8 (c : Int), .int .u8 (d : Int), .int .u8 (e : Int), .int .u8 (f : Int)] 5)) := text_run w [(a : Int), (b : Int), (c : Int), (d : Int), (e : Int), (f : Int)] 6 rfl
theorem tail_run (w : World) (a f : Nat) :
    (convert 79 9 (.slice (some ⟨w.heap.size, 0, none⟩) 6 6)).run Tryz.prog (w.alloc (.cells #[.int .u8 (a : Int), .int .u8 0, .int .u8 0, .int .u8 0, .int .u8 0, .int .u8 (f : Int)] 5)) =
      .ok (.string (M.bytesOf [a, 0, 0, 0, 0, f])) (w.alloc (.cells #[.int .u8 (a : Int), .int .u8 0, .int .u8 0, .int .u8 0, .int .u8 0, .int .u8 (f : Int)] 5)) := text_run w [(a : Int), 0, 0, 0, 0, (f : Int)] 6 rfl
theorem box_cell {w W : World} {c : Array Value} {t : TypeId} (h : Below (w.heap.size + 1) (w.alloc (.cells c t)) W) (o : Nat) : W.cell? ⟨w.heap.size, o, none⟩ = c[o]? := by
  have e := h.cell (p := ⟨w.heap.size, o, none⟩) (by show w.heap.size < w.heap.size + 1; omega)
  rw [e, cell_in (heap_alloc_last w (.cells c t)) o]
set_option maxRecDepth 10000 in
set_option maxHeartbeats 1000000 in
theorem recText_any (pg num kp ph tr s0 v0 s1 v1 th : Nat) (w : World) (h0 : num < 256) (h1 : kp < 256) (h2 : ph < 256) (h3 : tr < 256) (h4 : s0 < 256) (h5 : s1 < 256) (h6 : v0 ≤ 65535) (h7 : v1 ≤ 65535) (h8 : th < 256) :
    Calls Tryz.prog 105 #[recV pg num kp ph tr s0 v0 s1 v1 th] w fun e w' => e = .returned (.string (recP num kp ph tr s0 v0 s1 v1 th)) ∧ Below w.heap.size w w' := by
  have HE := hide (recP_is num kp ph tr s0 v0 s1 v1 th)
  have hr1 := six_run (w.alloc (.cells #[.int .i64 pg, .int .i64 num, .int .i64 kp, .int .i64 ph, .int .i64 tr, .int .i64 s0, .int .i64 v0, .int .i64 s1, .int .i64 v1, .int .i64 th] 133)) num kp ph tr s0 s1
  simp only [World.size_alloc] at hr1
  have Z1 : (M.bytesOf [num, kp, ph, tr, s0, s1]).size ≤ 6 := Nat.le_refl _
  generalize M.bytesOf [num, kp, ph, tr, s0, s1] = T1 at *
  have Z4 : (M.bytesOf [th, 0, 0, 0, 0, num]).size ≤ 6 := Nat.le_refl _
  have HR3 := hide (fun W => tail_run W th num)
  generalize M.bytesOf [th, 0, 0, 0, 0, num] = T4 at *
  have p23 : ¬ 9223372036854775807 < (numT v0).size + (numT v1).size := by rw [numT_size, numT_size]; omega
  go_enter Tryz.func105, Tryz.ntmps105
  go_wp2_with fail
  clear hr1
  have HB0 : Hid (Below (w.heap.size + 1) (w.alloc (.cells #[.int .i64 pg, .int .i64 num, .int .i64 kp, .int .i64 ph, .int .i64 tr, .int .i64 s0, .int .i64 v0, .int .i64 s1, .int .i64 v1, .int .i64 th] 133)) ((w.alloc (.cells #[.int .i64 pg, .int .i64 num, .int .i64 kp, .int .i64 ph, .int .i64 tr, .int .i64 s0, .int .i64 v0, .int .i64 s1, .int .i64 v1, .int .i64 th] 133)).alloc (.cells #[.int .u8 (num : Int), .int .u8 (kp : Int), .int .u8 (ph : Int), .int .u8 (tr : Int), .int .u8 (s0 : Int), .int .u8 (s1 : Int)] 5))) := (Below.refl _ _).alloc (by simp) _
  have hz0 : w.heap.size + 1 ≤ ((w.alloc (.cells #[.int .i64 pg, .int .i64 num, .int .i64 kp, .int .i64 ph, .int .i64 tr, .int .i64 s0, .int .i64 v0, .int .i64 s1, .int .i64 v1, .int .i64 th] 133)).alloc (.cells #[.int .u8 (num : Int), .int .u8 (kp : Int), .int .u8 (ph : Int), .int .u8 (tr : Int), .int .u8 (s0 : Int), .int .u8 (s1 : Int)] 5)).heap.size := by simp
  generalize ((w.alloc (.cells #[.int .i64 pg, .int .i64 num, .int .i64 kp, .int .i64 ph, .int .i64 tr, .int .i64 s0, .int .i64 v0, .int .i64 s1, .int .i64 v1, .int .i64 th] 133)).alloc (.cells #[.int .u8 (num : Int), .int .u8 (kp : Int), .int .u8 (ph : Int), .int .u8 (tr : Int), .int .u8 (s0 : Int), .int .u8 (s1 : Int)] 5)) = W at *
  have c6 : W.cell? ⟨w.heap.size, 6, none⟩ = some (.int .i64 v0) := box_cell (unhide HB0) 6
  have c8 : W.cell? ⟨w.heap.size, 8, none⟩ = some (.int .i64 v1) := box_cell (unhide HB0) 8
  go_region_held3 (fun X => X.cell? ⟨w.heap.size, 6, none⟩ = some (.int .i64 v0) ∧ X.cell? ⟨w.heap.size, 8, none⟩ = some (.int .i64 v1)) (first | go_keep | exact ⟨box_cell hbN 6, box_cell hbN 8⟩) ((go_at_call 131; refine (numText_cum _ _ (by omega) (by omega) (by first | exact hzN | exact hz0) (by first | exact hbN | exact (unhide HB0).drew)).mono ?_; rintro e wN ⟨rfl, hbN, hzN⟩))
  have c1 : wN.cell? ⟨w.heap.size, 1, none⟩ = some (.int .i64 num) := box_cell hbN 1
  have c9 : wN.cell? ⟨w.heap.size, 9, none⟩ = some (.int .i64 th) := box_cell hbN 9
  have hr3 := unhide HR3 wN
  have HBN := hide (one_alloc hbN)
  have HZN := hide hzN
  have hE2 : T1 ++ (numT v0 ++ numT v1) ++ T4 = recP num kp ph tr s0 v0 s1 v1 th := HE.out
  have HE2 := hide hE2
  have Z5 : (numT v0 ++ numT v1).size = 4 := by rw [ByteArray.size_append, numT_size, numT_size]
  have Z6 := Nat.le_of_eq Z5
  generalize numT v0 ++ numT v1 = T5 at *
  have p1 : ¬ 9223372036854775807 < T1.size + T5.size := by omega
  have p2 : ¬ 9223372036854775807 < T1.size + T5.size + T4.size := by omega
  clear hE2 Z5 HE p23 hbN hzN c6 c8 HR3 HB0 hz0
  go_wp2
  go_ret
  exact ⟨ret_string HE2.out, (unhide HBN).alloc (by have := HZN.out; omega) _⟩
end Go.Proofs.YtjfmiomopfjecabGreat

/- Records that follow others, and the chunks that are there. -/
namespace Go.Proofs.YtjfmiomopfjecabGreat
open Go.RowKit Go.Lib

/- what lies in boxes behind a call that leaves them alone -/
theorem box1 {w w1 : World} {c1 : Array Value} {t1 : TypeId} (h : Below (w.alloc (.cells c1 t1)).heap.size (w.alloc (.cells c1 t1)) w1) :
    (∀ o, w1.cell? ⟨w.heap.size, o, none⟩ = c1[o]?) ∧ (∀ o, w1.frozen? ⟨w.heap.size, o, none⟩ = false) ∧ w.heap.size < w1.heap.size ∧ Below w.heap.size w w1 := by
  obtain ⟨a, b⟩ := block_facts ((h.block w.heap.size (by simp)).trans (last_block _ _ rfl))
  have hs := h.size
  simp only [World.size_alloc] at hs
  exact ⟨a, b, by omega, one_alloc (h.mono (by simp))⟩
theorem box2 {w w1 : World} {c1 c2 : Array Value} {t1 t2 : TypeId} (h : Below ((w.alloc (.cells c1 t1)).alloc (.cells c2 t2)).heap.size ((w.alloc (.cells c1 t1)).alloc (.cells c2 t2)) w1) :
    (∀ o, w1.cell? ⟨w.heap.size, o, none⟩ = c1[o]?) ∧ (∀ o, w1.frozen? ⟨w.heap.size, o, none⟩ = false) ∧ (∀ o, w1.cell? ⟨w.heap.size + 1, o, none⟩ = c2[o]?) ∧ (∀ o, w1.frozen? ⟨w.heap.size + 1, o, none⟩ = false) ∧ w.heap.size + 1 < w1.heap.size ∧ Below w.heap.size w w1 := by
  obtain ⟨a, b⟩ := block_facts ((h.block w.heap.size (by simp; omega)).trans (first_block _ _ _))
  obtain ⟨c, d⟩ := block_facts ((h.block (w.heap.size + 1) (by simp)).trans (last_block _ _ (by simp)))
  have hs := h.size
  simp only [World.size_alloc] at hs
  exact ⟨a, b, c, d, by omega, two_alloc (h.mono (by simp))⟩
theorem kept_block {X W : World} {g : Nat} {o : Obj} (h : Below X.heap.size X W) (hX : X.heap[g]? = some o) : W.heap[g]? = some o :=
  (h.block g (Array.getElem?_eq_some_iff.1 hX).1).trans hX
theorem drew_block {X : World} {g : Nat} {o : Obj} (hX : X.heap[g]? = some o) : X.drew.heap[g]? = some o := hX
theorem set_block {X : World} {g h o : Nat} {u : Value} {b : Obj} (hX : X.heap[g]? = some b) (hne : ¬ g = h) : (X.setCell ⟨h, o, none⟩ u).heap[g]? = some b := (Below.heap_setCell _ _ _ _ hne).trans hX
theorem alloc_block {X : World} {g : Nat} {o : Obj} (hX : X.heap[g]? = some o) (o2 : Obj) : (X.alloc o2).heap[g]? = some o :=
  (Below.heap_alloc _ _ _ (Array.getElem?_eq_some_iff.1 hX).1).trans hX
theorem blk1 {w w1 : World} {o1 : Obj} (h : Below (w.alloc o1).heap.size (w.alloc o1) w1) : w1.heap[w.heap.size]? = some o1 ∧ w.heap.size < w1.heap.size ∧ Below w.heap.size w w1 := by
  have hs := h.size
  simp only [World.size_alloc] at hs
  exact ⟨kept_block h (last_block _ _ rfl), by omega, one_alloc (h.mono (by simp))⟩
theorem blk2 {w w1 : World} {o1 o2 : Obj} (h : Below ((w.alloc o1).alloc o2).heap.size ((w.alloc o1).alloc o2) w1) : w1.heap[w.heap.size]? = some o1 ∧ w1.heap[w.heap.size + 1]? = some o2 ∧ w.heap.size + 1 < w1.heap.size ∧ Below w.heap.size w w1 := by
  have hs := h.size
  simp only [World.size_alloc] at hs
  exact ⟨kept_block h (first_block _ _ _), kept_block h (last_block _ _ (by simp)), by omega, two_alloc (h.mono (by simp))⟩
theorem blk3 {w w1 : World} {o1 o2 o3 : Obj} (h : Below (((w.alloc o1).alloc o2).alloc o3).heap.size (((w.alloc o1).alloc o2).alloc o3) w1) : w1.heap[w.heap.size]? = some o1 ∧ w1.heap[w.heap.size + 1]? = some o2 ∧ w1.heap[w.heap.size + 1 + 1]? = some o3 ∧ w.heap.size + 1 + 1 < w1.heap.size ∧ Below w.heap.size w w1 := by
  have hs := h.size
  simp only [World.size_alloc] at hs
  exact ⟨kept_block h (alloc_block (first_block _ _ _) _), kept_block h (alloc_block (last_block _ _ (by simp)) _), kept_block h (last_block _ _ (by simp)), by omega, two_alloc (((Below.refl _ _).alloc (by simp) _).trans (h.mono (by simp)))⟩
theorem bset {B : Nat} {w W : World} {g o : Nat} {v : Value} (hle : B ≤ g) (h : Below B w W) : Below B w (W.setCell ⟨g, o, none⟩ v) := h.setCell hle v
theorem balloc {B : Nat} {w W : World} {o : Obj} (hle : B ≤ W.heap.size) (h : Below B w W) : Below B w (W.alloc o) := h.alloc hle o
theorem bdrew {B : Nat} {w W : World} (h : Below B w W) : Below B w W.drew := h.drew
theorem bvia {B : Nat} {w X W : World} (hX : Below X.heap.size X W) (hle : B ≤ X.heap.size) (h : Below B w X) : Below B w W := h.trans (hX.mono hle)
set_option maxRecDepth 10000 in
set_option maxHeartbeats 1000000 in
theorem recWith_any (pg num kp ph tr s0 v0 s1 v1 th i : Nat) (w : World) (hp : pg ≤ 1) (hn : num < 256) (hth : th < 256) (hi : i < 6) (hno : th / 2 ^ i % 2 ≠ 1) :
    Calls Tryz.prog 168 #[recV pg num kp ph tr s0 v0 s1 v1 th, .int .i64 i] w fun e w' => e = .returned (recV (1 - pg : Nat) ((num + 1) % 256 : Nat) kp ph tr s0 v0 s1 v1 (th + 2 ^ i : Nat)) ∧ Below w.heap.size w w' := by
  have hB : 2 ^ i < 256 := Nat.lt_of_lt_of_le (Nat.pow_lt_pow_right (by omega) hi) (by decide)
  have HO : Hid (th ||| 2 ^ i = th + 2 ^ i) := or_bit hth hi hno
  have hor := M.or_i64 th (2 ^ i) (by omega) (by omega)
  have hbit := hide (fun W => recBit_any i W hi)
  clear hno
  generalize 2 ^ i = B at *
  go_enter Tryz.func168, Tryz.ntmps168
  go_wp2_with fail
  refine (recNext_any pg num kp ph tr s0 v0 s1 v1 th _ hp hn).mono ?_
  rintro e w1 ⟨rfl, hb⟩
  obtain ⟨hy, hfy, hz, hfz, hs1, hb1⟩ := box2 hb
  have HB := hide hb1
  have hn1 : ¬ w.heap.size + 1 = w1.heap.size := by omega
  clear hb hb1 hy hfy
  generalize hN : (num + 1) % 256 = N at *
  generalize hP : 1 - pg = P at *
  have HN := hide hN
  have HP := hide hP
  clear hN hP
  go_wp2_with fail
  go_region_with ((go_at_call 143; refine (unhide hbit _).mono ?_; rintro e w' ⟨rfl, rfl⟩))
  all_goals
    go_wp2
    refine bodyPost_ret (v := recV P N kp ph tr s0 v0 s1 v1 (th ||| B : Nat)) (by simp [results, Tryz.results168, go_sem, hz, hs1]) rfl ⟨ret_rec (by rw [HP.out]) (by rw [HN.out]) rfl rfl rfl rfl rfl rfl rfl (by rw [HO.out]), ?_⟩
    repeat (first | with_reducible exact unhide HB | with_reducible exact Below.refl _ _ | with_reducible refine bdrew ?_ | (with_reducible refine brow ?_ ?_; (focus (first | omega | (simp; done) | (simp; omega)))) | (with_reducible refine bset ?_ ?_; (focus (first | omega | (simp; done) | (simp; omega)))) | (with_reducible refine balloc ?_ ?_; (focus (first | omega | (simp; done) | (simp; omega)))) | (with_reducible refine bvia (unhide HB1) ?_ ?_; (focus (first | omega | (simp; done) | (simp; omega)))) | (with_reducible refine bvia (unhide HB2) ?_ ?_; (focus (first | omega | (simp; done) | (simp; omega)))) | (with_reducible refine bvia (unhide HB3) ?_ ?_; (focus (first | omega | (simp; done) | (simp; omega)))) | (with_reducible refine bvia (unhide HB4) ?_ ?_; (focus (first | omega | (simp; done) | (simp; omega)))) | (with_reducible refine bvia (unhide HB5) ?_ ?_; (focus (first | omega | (simp; done) | (simp; omega)))) | (with_reducible refine bvia (unhide HB6) ?_ ?_; (focus (first | omega | (simp; done) | (simp; omega)))))
set_option maxRecDepth 10000 in
theorem recTrying_any (pg num kp ph tr s0 v0 s1 v1 th s v : Nat) (w : World) (hp : pg ≤ 1) (hn : num < 256) :
    Calls Tryz.prog 196 #[recV pg num kp ph tr s0 v0 s1 v1 th, .agg #[.int .i64 s, .int .i64 v]] w fun e w' => e = .returned (recV (1 - pg : Nat) ((num + 1) % 256 : Nat) kp 2 3 (if kp = 0 then s0 else s : Nat) (if kp = 0 then v0 else v : Nat) (if kp = 0 then s else s1 : Nat) (if kp = 0 then v else v1 : Nat) 0) ∧ Below w.heap.size w w' := by
  by_cases h0 : kp = 0
  · subst h0
    rw [if_pos rfl, if_pos rfl, if_pos rfl, if_pos rfl]
    go_enter Tryz.func196, Tryz.ntmps196
    go_wp2_with fail
    refine (recPhase_any pg num 0 ph tr s0 v0 s1 v1 th 2 3 _ hp hn).mono ?_
    rintro e w1 ⟨rfl, hb1⟩
    obtain ⟨-, k2, k3, hs1, hb⟩ := blk3 hb1
    obtain ⟨hx2, hf2⟩ := block_facts k2
    obtain ⟨hx3, hf3⟩ := block_facts k3
    have HB := hide hb
    have l2 : w.heap.size + 1 < w1.heap.size := (by omega); have n2 : ¬ w.heap.size + 1 = w1.heap.size := (by omega)
    have l3 : w.heap.size + 1 + 1 < w1.heap.size := (by omega); have n3 : ¬ w.heap.size + 1 + 1 = w1.heap.size := (by omega)
    clear hb hb1 k2 k3
    generalize hN : (num + 1) % 256 = N at *; generalize hP : 1 - pg = P at *; have HN := hide hN; have HP := hide hP; clear hN hP
    go_wp2
    refine bodyPost_ret (v := recV P N 0 2 3 s0 v0 s v 0) (by simp [results, Tryz.results196, go_sem, *]) rfl ⟨ret_rec (by rw [HP.out]) (by rw [HN.out]) rfl rfl rfl rfl rfl rfl rfl rfl, ?_⟩
    repeat (first | with_reducible exact unhide HB | with_reducible exact Below.refl _ _ | with_reducible refine bdrew ?_ | (with_reducible refine brow ?_ ?_; (focus (first | omega | (simp; done) | (simp; omega)))) | (with_reducible refine bset ?_ ?_; (focus (first | omega | (simp; done) | (simp; omega)))) | (with_reducible refine balloc ?_ ?_; (focus (first | omega | (simp; done) | (simp; omega)))) | (with_reducible refine bvia (unhide HB1) ?_ ?_; (focus (first | omega | (simp; done) | (simp; omega)))) | (with_reducible refine bvia (unhide HB2) ?_ ?_; (focus (first | omega | (simp; done) | (simp; omega)))) | (with_reducible refine bvia (unhide HB3) ?_ ?_; (focus (first | omega | (simp; done) | (simp; omega)))) | (with_reducible refine bvia (unhide HB4) ?_ ?_; (focus (first | omega | (simp; done) | (simp; omega)))) | (with_reducible refine bvia (unhide HB5) ?_ ?_; (focus (first | omega | (simp; done) | (simp; omega)))) | (with_reducible refine bvia (unhide HB6) ?_ ?_; (focus (first | omega | (simp; done) | (simp; omega)))))
  · rw [if_neg h0, if_neg h0, if_neg h0, if_neg h0]
    have h1 : ¬ (kp : Int) = 0 := by omega
    go_enter Tryz.func196, Tryz.ntmps196
    go_wp2_with fail
    refine (recPhase_any pg num kp ph tr s0 v0 s1 v1 th 2 3 _ hp hn).mono ?_
    rintro e w1 ⟨rfl, hb1⟩
    obtain ⟨-, k2, k3, hs1, hb⟩ := blk3 hb1
    obtain ⟨hx2, hf2⟩ := block_facts k2
    obtain ⟨hx3, hf3⟩ := block_facts k3
    have HB := hide hb
    have l2 : w.heap.size + 1 < w1.heap.size := (by omega); have n2 : ¬ w.heap.size + 1 = w1.heap.size := (by omega)
    have l3 : w.heap.size + 1 + 1 < w1.heap.size := (by omega); have n3 : ¬ w.heap.size + 1 + 1 = w1.heap.size := (by omega)
    clear hb hb1 k2 k3
    generalize hN : (num + 1) % 256 = N at *; generalize hP : 1 - pg = P at *; have HN := hide hN; have HP := hide hP; clear hN hP
    go_wp2
    refine bodyPost_ret (v := recV P N kp 2 3 s v s1 v1 0) (by simp [results, Tryz.results196, go_sem, *]) rfl ⟨ret_rec (by rw [HP.out]) (by rw [HN.out]) rfl rfl rfl rfl rfl rfl rfl rfl, ?_⟩
    repeat (first | with_reducible exact unhide HB | with_reducible exact Below.refl _ _ | with_reducible refine bdrew ?_ | (with_reducible refine brow ?_ ?_; (focus (first | omega | (simp; done) | (simp; omega)))) | (with_reducible refine bset ?_ ?_; (focus (first | omega | (simp; done) | (simp; omega)))) | (with_reducible refine balloc ?_ ?_; (focus (first | omega | (simp; done) | (simp; omega)))) | (with_reducible refine bvia (unhide HB1) ?_ ?_; (focus (first | omega | (simp; done) | (simp; omega)))) | (with_reducible refine bvia (unhide HB2) ?_ ?_; (focus (first | omega | (simp; done) | (simp; omega)))) | (with_reducible refine bvia (unhide HB3) ?_ ?_; (focus (first | omega | (simp; done) | (simp; omega)))) | (with_reducible refine bvia (unhide HB4) ?_ ?_; (focus (first | omega | (simp; done) | (simp; omega)))) | (with_reducible refine bvia (unhide HB5) ?_ ?_; (focus (first | omega | (simp; done) | (simp; omega)))) | (with_reducible refine bvia (unhide HB6) ?_ ?_; (focus (first | omega | (simp; done) | (simp; omega)))))
set_option maxRecDepth 10000 in
theorem recConfirmed_any (pg num kp ph tr s0 v0 s1 v1 th : Nat) (w : World) (hp : pg ≤ 1) (hn : num < 256) (hk : kp ≤ 1) :
    Calls Tryz.prog 170 #[recV pg num kp ph tr s0 v0 s1 v1 th] w fun e w' => e = .returned (recV (1 - pg : Nat) ((num + 1) % 256 : Nat) (1 - kp : Nat) 0 0 s0 v0 s1 v1 0) ∧ Below w.heap.size w w' := by
  go_enter Tryz.func170, Tryz.ntmps170
  go_wp2_with fail
  refine (recSteady_any pg num kp ph tr s0 v0 s1 v1 th _ hp hn).mono ?_
  rintro e w1 ⟨rfl, hb1⟩
  obtain ⟨k1, k2, hs1, hb⟩ := blk2 hb1
  obtain ⟨hx1, hf1⟩ := block_facts k1
  have HB := hide hb
  have K2 := hide k2
  have l1 : w.heap.size < w1.heap.size := (by omega); have n1 : ¬ w.heap.size = w1.heap.size := (by omega)
  have l2 : w.heap.size + 1 < w1.heap.size := (by omega); have n2 : ¬ w.heap.size + 1 = w1.heap.size := (by omega)
  clear hb hb1 k1 k2
  generalize hN : (num + 1) % 256 = N at *; generalize hP : 1 - pg = P at *; have HN := hide hN; have HP := hide hP; clear hN hP
  go_wp2_with fail
  refine (recOther_any pg num kp ph tr s0 v0 s1 v1 th _ hk).mono ?_
  rintro e w2 ⟨rfl, hb2⟩
  clear hx1 hf1
  obtain ⟨hx2, hf2⟩ := block_facts (kept_block hb2 (alloc_block (unhide K2) _))
  obtain ⟨k3, hs2, hb⟩ := blk1 hb2
  obtain ⟨hx3, hf3⟩ := block_facts k3
  have HB2 := hide hb
  clear hb hb2 k3
  have l3 : w1.heap.size < w2.heap.size := (by omega); have n3 : ¬ w1.heap.size = w2.heap.size := (by omega)
  have l4 : w.heap.size + 1 < w2.heap.size := (by omega); have n4 : ¬ w.heap.size + 1 = w2.heap.size := (by omega)
  generalize hK : 1 - kp = K at *
  have HK := hide hK
  clear hK
  go_wp2
  refine bodyPost_ret (v := recV P N K 0 0 s0 v0 s1 v1 0) (by simp [results, Tryz.results170, go_sem, *]) rfl ⟨ret_rec (by rw [HP.out]) (by rw [HN.out]) (by rw [HK.out]) rfl rfl rfl rfl rfl rfl rfl, ?_⟩
  repeat (first | with_reducible exact unhide HB | with_reducible exact Below.refl _ _ | with_reducible refine bdrew ?_ | (with_reducible refine brow ?_ ?_; (focus (first | omega | (simp; done) | (simp; omega)))) | (with_reducible refine bset ?_ ?_; (focus (first | omega | (simp; done) | (simp; omega)))) | (with_reducible refine balloc ?_ ?_; (focus (first | omega | (simp; done) | (simp; omega)))) | (with_reducible refine bvia (unhide HB1) ?_ ?_; (focus (first | omega | (simp; done) | (simp; omega)))) | (with_reducible refine bvia (unhide HB2) ?_ ?_; (focus (first | omega | (simp; done) | (simp; omega)))) | (with_reducible refine bvia (unhide HB3) ?_ ?_; (focus (first | omega | (simp; done) | (simp; omega)))) | (with_reducible refine bvia (unhide HB4) ?_ ?_; (focus (first | omega | (simp; done) | (simp; omega)))) | (with_reducible refine bvia (unhide HB5) ?_ ?_; (focus (first | omega | (simp; done) | (simp; omega)))) | (with_reducible refine bvia (unhide HB6) ?_ ?_; (focus (first | omega | (simp; done) | (simp; omega)))))
/-- how many of the first n chunks are not there; the first of them -/
def missN (th n : Nat) : Nat := ((List.range n).filter fun i => decide (th / 2 ^ i % 2 = 0)).length
theorem missN_succ (th n : Nat) : missN th (n + 1) = missN th n + if th / 2 ^ n % 2 = 0 then 1 else 0 := by
  unfold missN
  rw [List.range_succ, List.filter_append, List.length_append]
  by_cases h : th / 2 ^ n % 2 = 0
  · rw [if_pos h, List.filter_cons_of_pos (by simpa using h)]; rfl
  · rw [if_neg h, List.filter_cons_of_neg (by simpa using h)]; rfl
theorem missN_le (th n : Nat) : missN th n ≤ n := by
  unfold missN
  exact Nat.le_trans (List.length_filter_le _ _) (by simp)
set_option maxRecDepth 10000 in
theorem recMissing_any (pg num kp ph tr s0 v0 s1 v1 th n : Nat) (w : World) (hth : th < 256) (hn : n ≤ 6) :
    Calls Tryz.prog 84 #[recV pg num kp ph tr s0 v0 s1 v1 th, .int .i64 n] w fun e w' => e = .returned (.int .i64 (missN th n)) ∧ Below w.heap.size w w' := by
  go_enter Tryz.func84, Tryz.ntmps84
  go_wp2_with fail
  go_loopw [5, 6] (fun c i wr => ∃ k : Nat, k ≤ n ∧ i = .int .i64 k ∧ c = .int .i64 (missN th k) ∧ Below (w.heap.size + 1) (w.alloc (.cells #[.int .i64 pg, .int .i64 num, .int .i64 kp, .int .i64 ph, .int .i64 tr, .int .i64 s0, .int .i64 v0, .int .i64 s1, .int .i64 v1, .int .i64 th] 133)) wr) (fun _ i _ => n - (intOf i).toNat)
  case atStart => exact ⟨0, by omega, rfl, rfl, Below.refl _ _⟩
  case round =>
    obtain ⟨k, hk, rfl, rfl, hbel⟩ := hrel
    have hc := box_cell hbel
    have hle := missN_le th k
    by_cases hlt : k < n
    · have HS := hide (missN_succ th k)
      have HBel := hide hbel
      clear hbel
      by_cases hb : th / 2 ^ k % 2 = 1
      · have HD : Hid (decide (th / 2 ^ k % 2 = 1) = true) := decide_eq_true hb
        have HS2 : Hid (missN th (k + 1) = missN th k) := by rw [HS.out, if_neg (by omega)]; rfl
        clear HS hb
        generalize missN th k = m at *
        go_wp2_with fail
        refine (recHas_any pg num kp ph tr s0 v0 s1 v1 th k _ hth (by omega)).mono ?_
        rintro e w1 ⟨rfl, hb1⟩
        rw [HD.out]
        have HB1 := hide ((unhide HBel).trans (hb1.mono (by have := (unhide HBel).size; simp at this; omega)))
        clear hb1
        go_wp2
        go_roundw
        case rel => exact ⟨k + 1, by omega, by go_num, by rw [HS2.out], unhide HB1⟩
        case measure => simp [intOf]; omega
      · have HD : Hid (decide (th / 2 ^ k % 2 = 1) = false) := decide_eq_false hb
        have HS2 : Hid (missN th (k + 1) = missN th k + 1) := by rw [HS.out, if_pos (by omega)]; rfl
        clear HS hb
        generalize missN th k = m at *
        go_wp2_with fail
        refine (recHas_any pg num kp ph tr s0 v0 s1 v1 th k _ hth (by omega)).mono ?_
        rintro e w1 ⟨rfl, hb1⟩
        rw [HD.out]
        have HB1 := hide ((unhide HBel).trans (hb1.mono (by have := (unhide HBel).size; simp at this; omega)))
        clear hb1
        go_wp2
        go_roundw
        case rel => exact ⟨k + 1, by omega, by go_num, by rw [HS2.out]; go_num, unhide HB1⟩
        case measure => simp [intOf]; omega
    · have hkn : k = n := by omega
      subst hkn
      have HB : Hid (Below w.heap.size w wr) := one_alloc hbel
      clear hbel
      go_wp2
      go_ret
      exact ⟨rfl, unhide HB⟩
set_option maxRecDepth 10000 in
theorem recWanted_some (pg num kp ph tr s0 v0 s1 v1 th n i : Nat) (w : World) (hth : th < 256) (hn : n ≤ 6) (hi : i < n) (hno : th / 2 ^ i % 2 = 0) (hall : ∀ j, j < i → th / 2 ^ j % 2 = 1) :
    Calls Tryz.prog 184 #[recV pg num kp ph tr s0 v0 s1 v1 th, .int .i64 n] w fun e w' => e = .returned (.int .i64 i) ∧ Below w.heap.size w w' := by
  have HA := hide hall
  have HNo := hide hno
  clear hall hno
  go_enter Tryz.func184, Tryz.ntmps184
  go_wp2_with fail
  go_loopw [5] (fun i' wr => ∃ k : Nat, k ≤ i ∧ i' = .int .i64 k ∧ Below (w.heap.size + 1) (w.alloc (.cells #[.int .i64 pg, .int .i64 num, .int .i64 kp, .int .i64 ph, .int .i64 tr, .int .i64 s0, .int .i64 v0, .int .i64 s1, .int .i64 v1, .int .i64 th] 133)) wr) (fun i' _ => n - (intOf i').toNat)
  case atStart => exact ⟨0, by omega, rfl, Below.refl _ _⟩
  case round =>
    obtain ⟨k, hk, rfl, hbel⟩ := hrel
    have hc := box_cell hbel
    have hlt : k < n := by omega
    have HBel := hide hbel
    clear hbel
    by_cases hki : k < i
    · have HD : Hid (decide (th / 2 ^ k % 2 = 1) = true) := decide_eq_true (unhide HA k hki)
      go_wp2_with fail
      refine (recHas_any pg num kp ph tr s0 v0 s1 v1 th k _ hth (by omega)).mono ?_
      rintro e w1 ⟨rfl, hb1⟩
      rw [HD.out]
      have HB1 := hide ((unhide HBel).trans (hb1.mono (by have := (unhide HBel).size; simp at this; omega)))
      clear hb1
      go_wp2
      go_roundw
      case rel => exact ⟨k + 1, by omega, by go_num, unhide HB1⟩
      case measure => simp [intOf]; omega
    · have hkn : k = i := by omega
      subst hkn
      have HD : Hid (decide (th / 2 ^ k % 2 = 1) = false) := decide_eq_false (by have := HNo.out; omega)
      go_wp2_with fail
      refine (recHas_any pg num kp ph tr s0 v0 s1 v1 th k _ hth (by omega)).mono ?_
      rintro e w1 ⟨rfl, hb1⟩
      rw [HD.out]
      have HB1 := hide (one_alloc ((unhide HBel).trans (hb1.mono (by have := (unhide HBel).size; simp at this; omega))))
      clear hb1
      go_wp2
      go_ret
      exact ⟨rfl, unhide HB1⟩
set_option maxRecDepth 10000 in
theorem recWanted_none (pg num kp ph tr s0 v0 s1 v1 th n : Nat) (w : World) (hth : th < 256) (hn : n ≤ 6) (hall : ∀ j, j < n → th / 2 ^ j % 2 = 1) :
    Calls Tryz.prog 184 #[recV pg num kp ph tr s0 v0 s1 v1 th, .int .i64 n] w fun e w' => e = .returned (.int .i64 (-1)) ∧ Below w.heap.size w w' := by
  have HA := hide hall
  clear hall
  go_enter Tryz.func184, Tryz.ntmps184
  go_wp2_with fail
  go_loopw [5] (fun i' wr => ∃ k : Nat, k ≤ n ∧ i' = .int .i64 k ∧ Below (w.heap.size + 1) (w.alloc (.cells #[.int .i64 pg, .int .i64 num, .int .i64 kp, .int .i64 ph, .int .i64 tr, .int .i64 s0, .int .i64 v0, .int .i64 s1, .int .i64 v1, .int .i64 th] 133)) wr) (fun i' _ => n - (intOf i').toNat)
  case atStart => exact ⟨0, by omega, rfl, Below.refl _ _⟩
  case round =>
    obtain ⟨k, hk, rfl, hbel⟩ := hrel
    have hc := box_cell hbel
    by_cases hlt : k < n
    · have HBel := hide hbel
      clear hbel
      have HD : Hid (decide (th / 2 ^ k % 2 = 1) = true) := decide_eq_true (unhide HA k hlt)
      go_wp2_with fail
      refine (recHas_any pg num kp ph tr s0 v0 s1 v1 th k _ hth (by omega)).mono ?_
      rintro e w1 ⟨rfl, hb1⟩
      rw [HD.out]
      have HB1 := hide ((unhide HBel).trans (hb1.mono (by have := (unhide HBel).size; simp at this; omega)))
      clear hb1
      go_wp2
      go_roundw
      case rel => exact ⟨k + 1, by omega, by go_num, unhide HB1⟩
      case measure => simp [intOf]; omega
    · have HB := hide (one_alloc hbel)
      clear hbel
      go_wp2
      go_ret
      exact ⟨rfl, unhide HB⟩
end Go.Proofs.YtjfmiomopfjecabGreat

/- The document's device in memory: what it reads of itself. -/
namespace Go.Proofs.YtjfmiomopfjecabGreat
open Go.RowKit Go.Lib

abbrev refC (d : M.Dev) : Array Value := #[.string d.key, .string (M.mk 368 d.F), .bool d.on, .int .i64 d.wait, .int .i64 d.next, .int .i64 d.age]
def RefAt (W : World) (g : Nat) (d : M.Dev) : Prop := W.heap[g]? = some (.cells (refC d) 118 (0, 0))
theorem ret_num {a b : Int} (h : a = b) : Value.int .i64 a = .int .i64 b := by rw [h]
section
variable {W : World} {g : Nat} {d : M.Dev}
theorem RefAt.lt (h : RefAt W g d) : g < W.heap.size := (Array.getElem?_eq_some_iff.1 h).1
theorem RefAt.kept {W' : World} (h : RefAt W g d) (hb : Below W.heap.size W W') : RefAt W' g d := kept_block hb h
theorem RefAt.below {W' : World} {B : Nat} (h : RefAt W g d) (hb : Below B W W') (hB : g < B) : RefAt W' g d := (hb.block g hB).trans h
theorem RefAt.only {W' : World} {p : Nat → Prop} (h : RefAt W g d) (ho : Only p W W') (hn : ¬ p g) : RefAt W' g d := (ho.block g h.lt hn).trans h

theorem RefAt.keyC (h : RefAt W g d) : W.cell? ⟨g, 0, none⟩ = some (.string d.key) := cell_in h 0
theorem RefAt.flashC (h : RefAt W g d) : W.cell? ⟨g, 1, none⟩ = some (.string (M.mk 368 d.F)) := cell_in h 1
theorem RefAt.onC (h : RefAt W g d) : W.cell? ⟨g, 2, none⟩ = some (.bool d.on) := cell_in h 2
theorem RefAt.waitC (h : RefAt W g d) : W.cell? ⟨g, 3, none⟩ = some (.int .i64 d.wait) := cell_in h 3
theorem RefAt.nextC (h : RefAt W g d) : W.cell? ⟨g, 4, none⟩ = some (.int .i64 d.next) := cell_in h 4
theorem RefAt.ageC (h : RefAt W g d) : W.cell? ⟨g, 5, none⟩ = some (.int .i64 d.age) := cell_in h 5
theorem RefAt.free (h : RefAt W g d) (o : Nat) : W.frozen? ⟨g, o, none⟩ = false := (block_facts h).2 o
theorem noughts_any (n : Nat) (w : World) (hn : n ≤ 1000) :
    Calls Tryz.prog 88 #[.int .i64 n] w fun e w' => e = .returned (.string (M.mk n fun _ => 0)) ∧ w = w' := by
  have HST := hide (fun k => M.mk_succ k fun _ => 0)
  go_enter Tryz.func88, Tryz.ntmps88
  go_wp2_with fail
  go_loopw [3, 4] (fun v i wr => ∃ (k : Nat) (x : ByteArray), k ≤ n ∧ i = .int .i64 k ∧ v = .string x ∧ Hid (x = M.mk k fun _ => 0) ∧ wr = w) (fun _ i _ => n - (intOf i).toNat)
  case atStart => exact ⟨0, _, by omega, rfl, rfl, rfl, rfl⟩
  case round =>
    obtain ⟨k, x, hk, rfl, rfl, hx, rfl⟩ := hrel
    have hxs : x.size = k := by rw [hx.out, M.mk_size]
    by_cases hlt : k < n
    · have HS : Hid (∀ y, y = x ++ ⟨#[0]⟩ → y = M.mk (k + 1) fun _ => 0) := by
        rintro y rfl
        rw [HST.out k, ← hx.out]
        rfl
      go_wp2
      go_roundw
      case rel => exact ⟨k + 1, _, by omega, by go_num, rfl, HS.out _ rfl, by first | rfl | trivial⟩
      case measure => simp [intOf]; omega
    · have hkn : k = n := by omega
      subst hkn
      go_wp2
      go_ret
      exact ⟨ret_string hx.out, rfl⟩
theorem refPad_is {s : ByteArray} (hs : s.size ≤ 16) : s ++ (M.mk (16 - s.size) fun _ => 0) = M.mk 16 (M.bz s) := by
  refine M.bz_ext (by simp [M.mk_size]; omega) fun j hj => ?_
  have hj' : j < 16 := by simp [M.mk_size] at hj; omega
  rw [M.bz_append, M.bz_mk (fun j _ => M.bz_lt _ _) hj']
  by_cases h : j < s.size
  · rw [if_pos h]
  · rw [if_neg h, M.bz_mk (fun _ _ => by omega) (by omega), M.bz_out s j (by omega)]
theorem refPadded_any (s : ByteArray) (w : World) (hs : s.size ≤ 16) :
    Calls Tryz.prog 182 #[.string s] w fun e w' => e = .returned (.string (M.mk 16 (M.bz s))) ∧ w = w' := by
  have HE := hide (refPad_is hs)
  have hq : (16 : Int) - (s.size : Int) = ((16 - s.size : Nat) : Int) := by omega
  have HN := hide (noughts_any (16 - s.size) w (by omega))
  have hz : (M.mk (16 - s.size) fun _ => 0).size ≤ 16 := by rw [M.mk_size]; omega
  generalize (M.mk (16 - s.size) fun _ => 0) = t at *
  go_enter Tryz.func182, Tryz.ntmps182
  go_wp2_with fail
  refine (unhide HN).mono ?_
  rintro e w' ⟨rfl, rfl⟩
  go_wp2
  go_ret
  exact ⟨ret_string HE.out, rfl⟩
theorem page_is {F : Nat → Nat} (hF : ∀ j, F j < 256) (i : Nat) (hi : i < 23) : (M.mk 368 F).extract (i * 16) (i * 16 + 16) = pageT F i := by
  rw [M.extract_mk _ _ _ (by rw [M.mk_size]; omega), mk_part _ _ _ _ (by omega) hF]
  unfold pageT
  rw [if_pos ⟨by omega, by omega⟩, Int.toNat_natCast, Nat.mul_comm]
set_option maxRecDepth 10000 in
theorem refPage_any (h : RefAt W g d) (hF : ∀ j, d.F j < 256) (i : Int) :
    Calls Tryz.prog 50 #[.pointer (some ⟨g, 0, none⟩), .int .i64 i] W fun e w' => e = .returned (.string (pageT d.F i)) ∧ W = w' := by
  by_cases hi : 0 ≤ i ∧ i < 23
  · obtain ⟨n, rfl⟩ := Int.eq_ofNat_of_zero_le hi.1
    have HE := hide (page_is hF n (by omega))
    have hz := M.mk_size 368 d.F
    have hx := h.flashC
    clear h hF
    have hn : n < 23 := by omega
    clear hi
    generalize M.mk 368 d.F = t at *
    go_enter Tryz.func50, Tryz.ntmps50
    go_wp2
    go_ret
    exact ⟨ret_string HE.out, rfl⟩
  · have HE : Hid (pageT d.F i = ⟨#[]⟩) := if_neg hi
    have hi' : i < 0 ∨ 23 ≤ i := by omega
    clear h hF hi
    rcases hi' with hi | hi
    · go_enter Tryz.func50, Tryz.ntmps50
      go_wp2
      go_ret
      exact ⟨ret_string HE.out.symm, rfl⟩
    · go_enter Tryz.func50, Tryz.ntmps50
      go_wp2
      go_ret
      exact ⟨ret_string HE.out.symm, rfl⟩
theorem pageT_bz {F : Nat → Nat} (hF : ∀ j, F j < 256) {p i : Nat} (hp : p < 23) (hi : i < 16) : M.bz (pageT F p) i = F (16 * p + i) := by
  unfold pageT
  rw [if_pos ⟨by omega, by omega⟩, Int.toNat_natCast, M.bz_mk (fun j _ => hF _) hi]
theorem pageT_size {F : Nat → Nat} {p : Nat} (hp : p < 23) : (pageT F p).size = 16 := by
  unfold pageT
  rw [if_pos ⟨by omega, by omega⟩, M.mk_size]
theorem number_page {F : Nat → Nat} (hF : ∀ j, F j < 256) {p i : Nat} (hp : p < 23) (hi : i < 16) (w : World) :
    Calls Tryz.prog 117 #[.string (pageT F p), .int .i64 i] w fun e w' => e = .returned (.int .i64 (F (16 * p + i))) ∧ w = w' := by
  have h := refNumber_in (pageT F p) i w (by rw [pageT_size hp]; unfold maxLen; omega) (by omega) (by rw [pageT_size hp]; omega)
  rw [Int.toNat_natCast, pageT_bz hF hp hi] at h
  exact h
set_option maxRecDepth 10000 in
theorem refWhere_any (h : RefAt W g d) (hF : ∀ j, d.F j < 256) :
    Calls Tryz.prog 127 #[.pointer (some ⟨g, 0, none⟩)] W fun e w' => e = .returned (.int .i64 (M.recAt d.F)) ∧ W = w' := by
  have HP0 := hide (refPage_any h hF 0)
  have HP1 := hide (refPage_any h hF 1)
  have HA0 : Hid (∀ w : World, Calls Tryz.prog 117 #[.string (pageT d.F 0), .int .i64 0] w fun e w' => e = .returned (.int .i64 (d.F 0)) ∧ w = w') := fun w => number_page hF (p := 0) (i := 0) (by omega) (by omega) w
  have HA15 : Hid (∀ w : World, Calls Tryz.prog 117 #[.string (pageT d.F 0), .int .i64 15] w fun e w' => e = .returned (.int .i64 (d.F 15)) ∧ w = w') := fun w => number_page hF (p := 0) (i := 15) (by omega) (by omega) w
  have HB0 : Hid (∀ w : World, Calls Tryz.prog 117 #[.string (pageT d.F 1), .int .i64 0] w fun e w' => e = .returned (.int .i64 (d.F 16)) ∧ w = w') := fun w => number_page hF (p := 1) (i := 0) (by omega) (by omega) w
  have HB15 : Hid (∀ w : World, Calls Tryz.prog 117 #[.string (pageT d.F 1), .int .i64 15] w fun e w' => e = .returned (.int .i64 (d.F 31)) ∧ w = w') := fun w => number_page hF (p := 1) (i := 15) (by omega) (by omega) w
  have HR : Hid (M.recAt d.F = if d.F 16 = d.F 31 ∧ (d.F 0 ≠ d.F 15 ∨ d.F 16 = (d.F 0 + 1) % 256) then 1 else 0) := rfl
  have b0 := hF 0
  have b16 := hF 16
  clear h hF
  generalize pageT d.F 0 = A at *
  generalize pageT d.F 1 = B at *
  generalize d.F 0 = a0 at *
  generalize d.F 15 = a1 at *
  generalize d.F 16 = c0 at *
  generalize d.F 31 = c1 at *
  have hm : ((a0 : Int) + 1).tmod 256 = (((a0 + 1) % 256 : Nat) : Int) := by rw [Int.tmod_eq_emod_of_nonneg (by omega)]; omega
  by_cases h1 : c0 = c1
  · subst h1
    by_cases h2 : a0 = a1
    · subst h2
      by_cases h3 : c0 = (a0 + 1) % 256
      · have HQ : Hid (M.recAt d.F = 1) := by show _ = _; rw [HR.out, if_pos ⟨rfl, .inr h3⟩]
        have h3' : (c0 : Int) = (((a0 + 1) % 256 : Nat) : Int) := by omega
        generalize (a0 + 1) % 256 = m at *
        go_enter Tryz.func127, Tryz.ntmps127
        (go_wp2_with fail); (refine (unhide HP0).mono ?_); (rintro e w' ⟨rfl, rfl⟩); (go_wp2_with fail); (refine (unhide HP1).mono ?_); (rintro e w' ⟨rfl, rfl⟩); (go_wp2_with fail); (refine (unhide HB0 _).mono ?_); (rintro e w' ⟨rfl, rfl⟩); (go_wp2_with fail); (refine (unhide HB15 _).mono ?_); (rintro e w' ⟨rfl, rfl⟩)
        (go_wp2_with fail); (refine (unhide HA0 _).mono ?_); (rintro e w' ⟨rfl, rfl⟩); (go_wp2_with fail); (refine (unhide HA15 _).mono ?_); (rintro e w' ⟨rfl, rfl⟩)
        (go_wp2_with fail); (refine (unhide HB0 _).mono ?_); (rintro e w' ⟨rfl, rfl⟩); (go_wp2_with fail); (refine (unhide HA0 _).mono ?_); (rintro e w' ⟨rfl, rfl⟩)
        go_wp2
        go_ret
        exact ⟨ret_int (by rw [HQ.out]; rfl), rfl⟩
      · have HQ : Hid (M.recAt d.F = 0) := by show _ = _; rw [HR.out, if_neg (by rintro ⟨_, h | h⟩; exact h rfl; exact h3 h)]
        have h3' : ¬ (c0 : Int) = (((a0 + 1) % 256 : Nat) : Int) := by omega
        generalize (a0 + 1) % 256 = m at *
        go_enter Tryz.func127, Tryz.ntmps127
        (go_wp2_with fail); (refine (unhide HP0).mono ?_); (rintro e w' ⟨rfl, rfl⟩); (go_wp2_with fail); (refine (unhide HP1).mono ?_); (rintro e w' ⟨rfl, rfl⟩); (go_wp2_with fail); (refine (unhide HB0 _).mono ?_); (rintro e w' ⟨rfl, rfl⟩); (go_wp2_with fail); (refine (unhide HB15 _).mono ?_); (rintro e w' ⟨rfl, rfl⟩)
        (go_wp2_with fail); (refine (unhide HA0 _).mono ?_); (rintro e w' ⟨rfl, rfl⟩); (go_wp2_with fail); (refine (unhide HA15 _).mono ?_); (rintro e w' ⟨rfl, rfl⟩)
        (go_wp2_with fail); (refine (unhide HB0 _).mono ?_); (rintro e w' ⟨rfl, rfl⟩); (go_wp2_with fail); (refine (unhide HA0 _).mono ?_); (rintro e w' ⟨rfl, rfl⟩)
        go_wp2
        go_ret
        exact ⟨ret_int (by rw [HQ.out]; rfl), rfl⟩
    · have HQ : Hid (M.recAt d.F = 1) := by show _ = _; rw [HR.out, if_pos ⟨rfl, .inl h2⟩]
      have h2' : ¬ (a0 : Int) = (a1 : Int) := by omega
      go_enter Tryz.func127, Tryz.ntmps127
      (go_wp2_with fail); (refine (unhide HP0).mono ?_); (rintro e w' ⟨rfl, rfl⟩); (go_wp2_with fail); (refine (unhide HP1).mono ?_); (rintro e w' ⟨rfl, rfl⟩); (go_wp2_with fail); (refine (unhide HB0 _).mono ?_); (rintro e w' ⟨rfl, rfl⟩); (go_wp2_with fail); (refine (unhide HB15 _).mono ?_); (rintro e w' ⟨rfl, rfl⟩)
      (go_wp2_with fail); (refine (unhide HA0 _).mono ?_); (rintro e w' ⟨rfl, rfl⟩); (go_wp2_with fail); (refine (unhide HA15 _).mono ?_); (rintro e w' ⟨rfl, rfl⟩)
      go_wp2
      go_ret
      exact ⟨ret_int (by rw [HQ.out]; rfl), rfl⟩
  · have HQ : Hid (M.recAt d.F = 0) := by show _ = _; rw [HR.out, if_neg (fun h => h1 h.1)]
    have h1' : ¬ (c0 : Int) = (c1 : Int) := by omega
    go_enter Tryz.func127, Tryz.ntmps127
    (go_wp2_with fail); (refine (unhide HP0).mono ?_); (rintro e w' ⟨rfl, rfl⟩); (go_wp2_with fail); (refine (unhide HP1).mono ?_); (rintro e w' ⟨rfl, rfl⟩); (go_wp2_with fail); (refine (unhide HB0 _).mono ?_); (rintro e w' ⟨rfl, rfl⟩); (go_wp2_with fail); (refine (unhide HB15 _).mono ?_); (rintro e w' ⟨rfl, rfl⟩)
    go_wp2
    go_ret
    exact ⟨ret_int (by rw [HQ.out]; rfl), rfl⟩
theorem recAt_le (F : Nat → Nat) : M.recAt F ≤ 1 := by unfold M.recAt; split <;> omega
theorem refField_any (h : RefAt W g d) (hF : ∀ j, d.F j < 256) (i : Nat) (hi : i < 16) :
    Calls Tryz.prog 93 #[.pointer (some ⟨g, 0, none⟩), .int .i64 i] W fun e w' => e = .returned (.int .i64 (M.fld d.F i)) ∧ W = w' := by
  have HW := hide (refWhere_any h hF)
  have HP := hide (refPage_any h hF (M.recAt d.F))
  have HN := hide (fun w => number_page hF (p := M.recAt d.F) (i := i) (by have := recAt_le d.F; omega) hi w)
  have HE : Hid (d.F (16 * M.recAt d.F + i) = M.fld d.F i) := rfl
  clear h hF
  generalize M.recAt d.F = p at *
  generalize pageT d.F p = P at *
  generalize d.F (16 * p + i) = x at *
  go_enter Tryz.func93, Tryz.ntmps93
  go_wp2_with fail
  refine (unhide HW).mono ?_
  rintro e w' ⟨rfl, rfl⟩
  go_wp2_with fail
  refine (unhide HP).mono ?_
  rintro e w' ⟨rfl, rfl⟩
  go_wp2_with fail
  refine (unhide HN _).mono ?_
  rintro e w' ⟨rfl, rfl⟩
  go_wp2
  go_ret
  exact ⟨ret_int (by rw [HE.out]), rfl⟩
/-- the same at a number that is the place -/
theorem refField_at (h : RefAt W g d) (hF : ∀ j, d.F j < 256) (i : Nat) (hi : i < 16) (k : Int) (hk : k = i) :
    Calls Tryz.prog 93 #[.pointer (some ⟨g, 0, none⟩), .int .i64 k] W fun e w' => e = .returned (.int .i64 (M.fld d.F i)) ∧ W = w' := by
  subst hk
  exact refField_any h hF i hi
theorem refVersion_any (h : RefAt W g d) (hF : ∀ j, d.F j < 256) (s : Nat) (hs : s ≤ 1) :
    Calls Tryz.prog 91 #[.pointer (some ⟨g, 0, none⟩), .int .i64 s] W fun e w' => e = .returned (.int .i64 (M.verOf d.F s)) ∧ W = w' := by
  have H6 := hide (fun k hk => refField_at h hF (6 + 2 * s) (by omega) k hk)
  have H7 := hide (fun k hk => refField_at h hF (7 + 2 * s) (by omega) k hk)
  have HE : Hid (M.verOf d.F s = 256 * M.fld d.F (6 + 2 * s) + M.fld d.F (7 + 2 * s)) := rfl
  have b6 : M.fld d.F (6 + 2 * s) < 256 := hF _
  have b7 : M.fld d.F (7 + 2 * s) < 256 := hF _
  clear h hF
  generalize M.fld d.F (6 + 2 * s) = x at *
  generalize M.fld d.F (7 + 2 * s) = y at *
  go_enter Tryz.func91, Tryz.ntmps91
  go_wp2_with fail
  refine (unhide H6 _ (by omega)).mono ?_
  rintro e w' ⟨rfl, rfl⟩
  go_wp2_with fail
  refine (unhide H7 _ (by omega)).mono ?_
  rintro e w' ⟨rfl, rfl⟩
  go_wp2
  go_ret
  exact ⟨ret_int (by rw [HE.out]; omega), rfl⟩
theorem img_is {F : Nat → Nat} (hF : ∀ j, F j < 256) (s : Nat) (hs : s ≤ 1) (hl : M.fld F (4 + s) ≤ 96) : (M.mk 368 F).extract ((11 + 6 * s) * 16) ((11 + 6 * s) * 16 + M.fld F (4 + s)) = M.imgOf F s := by
  rw [M.extract_mk _ _ _ (by rw [M.mk_size]; omega), mk_part _ _ _ _ (by omega) hF]
  unfold M.imgOf
  rw [Nat.mul_comm 16]
theorem refImg_any (h : RefAt W g d) (hF : ∀ j, d.F j < 256) (s : Nat) (hs : s ≤ 1) (hl : M.fld d.F (4 + s) ≤ 96) :
    Calls Tryz.prog 123 #[.pointer (some ⟨g, 0, none⟩), .int .i64 s] W fun e w' => e = .returned (.string (M.imgOf d.F s)) ∧ W = w' := by
  have H4 := hide (fun k hk => refField_at h hF (4 + s) (by omega) k hk)
  have HE := hide (img_is hF s hs hl)
  have hz := M.mk_size 368 d.F
  have hx := h.flashC
  clear h hF
  generalize M.fld d.F (4 + s) = n at *
  generalize M.mk 368 d.F = t at *
  have hq : ∃ q : Nat, q = (11 + 6 * s) * 16 ∧ q + 96 ≤ 368 := ⟨_, rfl, by omega⟩
  go_enter Tryz.func123, Tryz.ntmps123
  go_wp2_with fail
  refine (unhide H4 _ (by omega)).mono ?_
  rintro e w' ⟨rfl, rfl⟩
  go_wp2
  go_ret
  exact ⟨ret_string HE.out, rfl⟩
theorem refServed_any (h : RefAt W g d) (hF : ∀ j, d.F j < 256) (h1 : M.fld d.F 1 ≤ 1) :
    Calls Tryz.prog 92 #[.pointer (some ⟨g, 0, none⟩)] W fun e w' => e = .returned (.int .i64 (M.servedD d.F)) ∧ W = w' := by
  have H2 := hide (refField_any h hF 2 (by omega))
  have H1 := hide (refField_any h hF 1 (by omega))
  have HE : Hid (M.servedD d.F = if M.fld d.F 2 = 2 then 1 - M.fld d.F 1 else M.fld d.F 1) := rfl
  clear h hF
  generalize M.fld d.F 2 = x at *
  generalize M.fld d.F 1 = y at *
  by_cases hx : x = 2
  · subst hx
    go_enter Tryz.func92, Tryz.ntmps92
    go_wp2_with fail
    refine (unhide H2).mono ?_
    rintro e w' ⟨rfl, rfl⟩
    go_wp2_with fail
    refine (unhide H1).mono ?_
    rintro e w' ⟨rfl, rfl⟩
    go_wp2
    go_ret
    exact ⟨ret_int (by rw [HE.out, if_pos trivial]; omega), rfl⟩
  · have hx' : ¬ (x : Int) = 2 := by omega
    go_enter Tryz.func92, Tryz.ntmps92
    go_wp2_with fail
    refine (unhide H2).mono ?_
    rintro e w' ⟨rfl, rfl⟩
    go_wp2_with fail
    refine (unhide H1).mono ?_
    rintro e w' ⟨rfl, rfl⟩
    go_wp2
    go_ret
    exact ⟨ret_int (by rw [HE.out, if_neg hx]), rfl⟩
end
end Go.Proofs.YtjfmiomopfjecabGreat

/- The walk of slotsref.Sum: the row of bits, and the rest of its division. -/
namespace Go.Proofs.YtjfmiomopfjecabGreat
open Go.RowKit

theorem infoInt : (Tryz.prog.info? 3).map (fun i => (i.zero, i.size, i.bytes)) = some (some (.int .i64 0), 1, 8) := by kernel_rfl

/-- a row of N bits -/
def tab (N : Nat) (f : Nat → Bool) : List Value := (List.range N).map fun j => Value.int .i64 ((f j).toNat : Int)
theorem tab_get {N : Nat} {f : Nat → Bool} {j : Nat} (h : j < N) : (tab N f)[j]? = some (Value.int .i64 ((f j).toNat : Int)) := by
  simp [tab, h]
theorem tab_congr {N : Nat} {f g : Nat → Bool} (h : ∀ j, j < N → f j = g j) : tab N f = tab N g := by
  unfold tab
  refine List.map_congr_left fun j hj => ?_
  rw [h j (List.mem_range.1 hj)]
theorem tab_set (N : Nat) (f : Nat → Bool) (j : Nat) (b : Bool) : (tab N f).set j (Value.int .i64 (b.toNat : Int)) = tab N (fun x => if x = j then b else f x) := by
  apply List.ext_getElem?
  intro k
  rw [List.getElem?_set]
  by_cases hk : k < N
  · by_cases e : j = k
    · subst e; simp [tab, hk]
    · have e' : ¬ k = j := fun h => e h.symm
      simp [tab, hk, e, e']
  · by_cases e : j = k
    · subst e; simp [tab, hk]
    · simp [tab, hk, e]
theorem tab_zero (n : Nat) : (madeCells (Value.int .i64 0).cells (n * 1)).toList = tab n (fun _ => false) := by
  show (madeCells #[Value.int .i64 0] (n * 1)).toList = _
  rw [Nat.mul_one, toList_madeCells_one]
  apply List.ext_getElem?
  intro k
  by_cases hk : k < n <;> simp [tab, hk]
theorem not_int (b : Bool) : (1 - (b.toNat : Int)) = ((!b).toNat : Int) := by cases b <;> rfl

theorem bit_int (c m : Nat) (h : c < 256) : bits BinOp.and IntKind.i64 ((c : Int) / 2 ^ m) 1 = ((c.testBit m).toNat : Int) := by
  have hd : c / 2 ^ m ≤ c := Nat.div_le_self _ _
  have e := M.and_i64 (c / 2 ^ m) 1 (by omega) (by omega)
  have e2 : ((c / 2 ^ m : Nat) : Int) = (c : Int) / 2 ^ m := by simp
  rw [e2] at e
  refine Eq.trans e ?_
  rw [Nat.and_one_is_mod, Nat.testBit_eq_decide_div_mod_eq]
  rcases Nat.mod_two_eq_zero_or_one (c / 2 ^ m) with h | h <;> simp [h]
theorem mbit_at (s : ByteArray) (k : Nat) (h : k / 8 < s.size) : M.mbit s.data.toList k = (s[k / 8]).toNat.testBit (7 - k % 8) := by
  unfold M.mbit
  rw [List.getD_eq_getElem?_getD, List.getElem?_eq_getElem (by simpa using h)]
  rfl
theorem stored_bit {w wr : World} {N k : Nat} {f g : Nat → Bool} {b : Bool} {x : Int} (hown : wr.ownsRow w.heap.size 3 1 (.slice (some ⟨w.heap.size, 0, none⟩) N N) N (tab N f))
    (hbel : Below w.heap.size w wr) (hx : x = (b.toNat : Int)) (hg : ∀ j, j < N → (if j = k then b else f j) = g j) :
    (wr.setCell ⟨w.heap.size, k, none⟩ (.int .i64 x)).ownsRow w.heap.size 3 1 (.slice (some ⟨w.heap.size, 0, none⟩) N N) N (tab N g) ∧ Below w.heap.size w (wr.setCell ⟨w.heap.size, k, none⟩ (.int .i64 x)) := by
  subst hx
  have h := (hown.stored k (.int .i64 (b.toNat : Int))).1
  rw [tab_set, tab_congr hg] at h
  exact ⟨h, hbel.setCell (Nat.le_refl _) _⟩

theorem flips {l : List UInt8} {w wr : World} {N k : Nat} (hown : wr.ownsRow w.heap.size 3 1 (.slice (some ⟨w.heap.size, 0, none⟩) N N) N (tab N (M.rowAt l k)))
    (hbel : Below w.heap.size w wr) (hb : M.rowAt l k k = true) :
    ((((wr.setCell ⟨w.heap.size, k, none⟩ (.int .i64 0)).setCell ⟨w.heap.size, k + 4, none⟩ (.int .i64 (1 - ((M.rowAt l k (k + 4)).toNat : Int)))).setCell ⟨w.heap.size, k + 11, none⟩ (.int .i64 (1 - ((M.rowAt l k (k + 11)).toNat : Int)))).setCell ⟨w.heap.size, k + 16, none⟩ (.int .i64 (1 - ((M.rowAt l k (k + 16)).toNat : Int)))).ownsRow w.heap.size 3 1 (.slice (some ⟨w.heap.size, 0, none⟩) N N) N (tab N (M.rowAt l (k + 1))) ∧
    Below w.heap.size w ((((wr.setCell ⟨w.heap.size, k, none⟩ (.int .i64 0)).setCell ⟨w.heap.size, k + 4, none⟩ (.int .i64 (1 - ((M.rowAt l k (k + 4)).toNat : Int)))).setCell ⟨w.heap.size, k + 11, none⟩ (.int .i64 (1 - ((M.rowAt l k (k + 11)).toNat : Int)))).setCell ⟨w.heap.size, k + 16, none⟩ (.int .i64 (1 - ((M.rowAt l k (k + 16)).toNat : Int)))) := by
  have h1 := stored_bit (k := k) (x := 0) (b := false) (g := fun j => if j = k then false else M.rowAt l k j) hown hbel rfl (fun _ _ => rfl)
  have h2 := stored_bit (k := k + 4) (b := !M.rowAt l k (k + 4)) (g := fun j => if j = k + 4 then !M.rowAt l k (k + 4) else if j = k then false else M.rowAt l k j) h1.1 h1.2 (not_int _) (fun _ _ => rfl)
  have h3 := stored_bit (k := k + 11) (b := !M.rowAt l k (k + 11)) (g := fun j => if j = k + 11 then !M.rowAt l k (k + 11) else if j = k + 4 then !M.rowAt l k (k + 4) else if j = k then false else M.rowAt l k j) h2.1 h2.2 (not_int _) (fun _ _ => rfl)
  refine stored_bit (k := k + 16) (b := !M.rowAt l k (k + 16)) h3.1 h3.2 (not_int _) ?_
  intro j _
  show _ = if M.rowAt l k k then (if j = k then false else M.rowAt l k j ^^ decide (j = k + 4 ∨ j = k + 11 ∨ j = k + 16)) else M.rowAt l k j
  rw [if_pos hb]
  by_cases e16 : j = k + 16
  · subst e16; simp
  · by_cases e11 : j = k + 11
    · subst e11; simp
    · by_cases e4 : j = k + 4
      · subst e4; simp
      · simp [e16, e11, e4]

set_option maxHeartbeats 1000000 in
theorem refSum_any (s : ByteArray) (w : World) (hs : s.size ≤ 1048576) :
    Calls Tryz.prog 153 #[.string s] w fun e w' => e = .returned (.int .i64 (M.crc s.data.toList)) ∧ Below w.heap.size w w' := by
  obtain ⟨i0, hi, hz0, hz1, hz2⟩ := info_parts infoInt
  go_enter Tryz.func153, Tryz.ntmps153
  go_wp2_with (at_make; refine wpList_make_full _ rfl _ _ 49 rfl w.heap.size 3 i0 (.int .i64 0) 1 Tryz.underlying49 hi hz0 hz1 .i64 .i64 _ _ (8 * s.size + 16) rfl rfl (by omega) (by omega) (by rw [hz2]; omega) (by unfold maxLen; omega) (Nat.le_refl _) ?_; intro w1 hown1 hgrow1)
  rw [tab_zero] at hown1
  have hbel1 : Below w.heap.size w w1 := (Below.refl _ _).grown hgrow1 (Nat.le_refl _) (by intro k hk; cases hk)
  clear hgrow1 hi hz0 hz1 hz2
  go_loopw [5] (fun i wr => ∃ k : Nat, k ≤ 8 * s.size ∧ i = .int .i64 k ∧ wr.ownsRow w.heap.size 3 1 (.slice (some ⟨w.heap.size, 0, none⟩) (8 * s.size + 16) (8 * s.size + 16)) (8 * s.size + 16) (tab (8 * s.size + 16) (fun j => decide (j < k) && M.mbit s.data.toList j)) ∧ Below w.heap.size w wr) (fun i _ => 8 * s.size - (intOf i).toNat)
  case atStart => exact ⟨0, by omega, rfl, by simpa using hown1, hbel1⟩
  case round =>
    obtain ⟨k, hk, rfl, hown, hbel⟩ := hrel
    clear hown1 hbel1
    by_cases hlt : k < 8 * s.size
    · have hfr := fun j => hown.frozenAt j
      have hcl := hown.cellAt k (by omega)
      rw [tab_get (by omega)] at hcl
      have h8 : k / 8 < s.size := by omega
      have hb : (s[k / 8]).toNat < 256 := (s[k / 8]).toNat_lt
      have R := stored_bit (k := k) (x := bits BinOp.and IntKind.i64 ((s[k / 8].toNat : Int) / 2 ^ (7 - k % 8)) 1) (g := fun j => decide (j < k + 1) && M.mbit s.data.toList j) hown hbel ((bit_int _ _ hb).trans (by rw [← mbit_at s k h8])) (by
        intro j _
        by_cases e : j = k
        · subst e; simp
        · have : (j < k + 1) = (j < k) := by apply propext; omega
          simp [e, this])
      have HR := hide R
      clear R hown hbel
      go_wp2
      go_roundw
      case rel => exact ⟨k + 1, by omega, by go_num, (unhide HR).1, (unhide HR).2⟩
      case measure => simp [intOf]; omega
    · have hk' : k = 8 * s.size := by omega
      subst hk'
      have hown2 : wr.ownsRow w.heap.size 3 1 (.slice (some ⟨w.heap.size, 0, none⟩) (8 * s.size + 16) (8 * s.size + 16)) (8 * s.size + 16) (tab (8 * s.size + 16) (fun j => M.mbit s.data.toList j ^^ decide (j < 0))) := by
        rw [tab_congr (g := fun j => M.mbit s.data.toList j ^^ decide (j < 0))] at hown
        · exact hown
        · intro j _
          by_cases e : j < 8 * s.size
          · simp [e]
          · rw [M.mbit_out _ _ (by simp; omega)]; simp
      clear hown hlt
      go_wp2
      go_loopw [6] (fun i wr => ∃ k : Nat, k ≤ 16 ∧ i = .int .i64 k ∧ wr.ownsRow w.heap.size 3 1 (.slice (some ⟨w.heap.size, 0, none⟩) (8 * s.size + 16) (8 * s.size + 16)) (8 * s.size + 16) (tab (8 * s.size + 16) (fun j => M.mbit s.data.toList j ^^ decide (j < k))) ∧ Below w.heap.size w wr) (fun i _ => 16 - (intOf i).toNat)
      case atStart => exact ⟨0, by omega, rfl, hown2, hbel⟩
      case round =>
        obtain ⟨k, hk, rfl, hown, hbel⟩ := hrel
        clear hown2
        by_cases hlt : k < 16
        · have hfr := fun j => hown.frozenAt j
          have hcl := hown.cellAt k (by omega)
          rw [tab_get (by omega)] at hcl
          have hbb := Bool.toNat_le (M.mbit s.data.toList k ^^ decide (k < k))
          have R := stored_bit (k := k) (x := 1 - (((M.mbit s.data.toList k ^^ decide (k < k)).toNat : Nat) : Int)) (g := fun j => M.mbit s.data.toList j ^^ decide (j < k + 1)) hown hbel (not_int _) (by
            intro j _
            by_cases e : j = k
            · subst e; simp
            · have : (j < k + 1) = (j < k) := by apply propext; omega
              simp [e, this])
          generalize (M.mbit s.data.toList k ^^ decide (k < k)).toNat = v at hcl R hbb
          have HR := hide R
          clear R hown hbel
          go_wp2
          go_roundw
          case rel => exact ⟨k + 1, by omega, by go_num, (unhide HR).1, (unhide HR).2⟩
          case measure => simp [intOf]; omega
        · have hk' : k = 16 := by omega
          subst hk'
          clear hlt
          have hown3 : wr.ownsRow w.heap.size 3 1 (.slice (some ⟨w.heap.size, 0, none⟩) (8 * s.size + 16) (8 * s.size + 16)) (8 * s.size + 16) (tab (8 * s.size + 16) (M.rowAt s.data.toList 0)) := hown
          clear hown
          go_wp2
          go_loopw [7] (fun i wr => ∃ k : Nat, k ≤ 8 * s.size ∧ i = .int .i64 k ∧ wr.ownsRow w.heap.size 3 1 (.slice (some ⟨w.heap.size, 0, none⟩) (8 * s.size + 16) (8 * s.size + 16)) (8 * s.size + 16) (tab (8 * s.size + 16) (M.rowAt s.data.toList k)) ∧ Below w.heap.size w wr) (fun i _ => 8 * s.size - (intOf i).toNat)
          case atStart => exact ⟨0, by omega, rfl, hown3, hbel⟩
          case round =>
            obtain ⟨k, hk, rfl, hown, hbel⟩ := hrel
            clear hown3
            by_cases hlt : k < 8 * s.size
            · have hfr := fun j => hown.frozenAt j
              have hcl0 := hown.cellAt k (by omega)
              rw [tab_get (by omega)] at hcl0
              cases hbit : M.rowAt s.data.toList k k
              · rw [hbit] at hcl0
                simp only [Bool.toNat_false] at hcl0
                rw [tab_congr (g := M.rowAt s.data.toList (k + 1)) (fun j _ => by simp [M.rowAt, hbit])] at hown
                have HR := hide hown
                have HB := hide hbel
                clear hown hbel hbit
                go_wp2
                go_roundw
                case rel => exact ⟨k + 1, by omega, by go_num, unhide HR, unhide HB⟩
                case measure => simp [intOf]; omega
              · rw [hbit] at hcl0
                simp only [Bool.toNat_true] at hcl0
                have hcl4 := hown.cellAt (k + 4) (by omega)
                rw [tab_get (by omega)] at hcl4
                have hcl11 := hown.cellAt (k + 11) (by omega)
                rw [tab_get (by omega)] at hcl11
                have hcl16 := hown.cellAt (k + 16) (by omega)
                rw [tab_get (by omega)] at hcl16
                have R := flips hown hbel hbit
                have hb4 := Bool.toNat_le (M.rowAt s.data.toList k (k + 4))
                have hb11 := Bool.toNat_le (M.rowAt s.data.toList k (k + 11))
                have hb16 := Bool.toNat_le (M.rowAt s.data.toList k (k + 16))
                generalize (M.rowAt s.data.toList k (k + 4)).toNat = b4 at *
                generalize (M.rowAt s.data.toList k (k + 11)).toNat = b11 at *
                generalize (M.rowAt s.data.toList k (k + 16)).toNat = b16 at *
                have HR := hide R
                clear R hown hbel hbit
                go_wp2
                go_roundw
                case rel => exact ⟨k + 1, by omega, by go_num, (unhide HR).1, (unhide HR).2⟩
                case measure => simp [intOf]; omega
            · have hk' : k = 8 * s.size := by omega
              subst hk'
              clear hlt
              have hlen : 8 * s.data.toList.length = 8 * s.size := by simp
              go_wp2
              go_loop [8, 9] (fun v i => ∃ k x : Nat, k ≤ 16 ∧ i = .int .i64 (8 * s.size + k : Nat) ∧ v = .int .i64 x ∧ Hid (x = M.tail s.data.toList k) ∧ x < 65536) (fun _ i => 8 * s.size + 16 - (intOf i).toNat)
              case atStart => exact ⟨0, 0, by omega, by go_num, rfl, (M.tail_zero _).symm, by omega⟩
              case round =>
                obtain ⟨k, x, hk, rfl, rfl, hx, hx1⟩ := hrel
                by_cases hlt : k < 16
                · have hcl := hown.cellAt (8 * s.size + k) (by omega)
                  rw [tab_get (by omega)] at hcl
                  have HT : Hid (2 * x + (M.rowAt s.data.toList (8 * s.size) (8 * s.size + k)).toNat = M.tail s.data.toList (k + 1)) := by
                    rw [M.tail_succ _ _ hlt, hlen, hx.out]; rfl
                  have hT := M.tail_lt s.data.toList (k + 1)
                  rw [← HT.out] at hT
                  have hb := Bool.toNat_le (M.rowAt s.data.toList (8 * s.size) (8 * s.size + k))
                  generalize (M.rowAt s.data.toList (8 * s.size) (8 * s.size + k)).toNat = b at *
                  clear hown hlen
                  go_wp2
                  go_round
                  case rel => exact ⟨k + 1, 2 * x + b, by omega, by go_num, by go_num, HT, hT⟩
                  case measure => simp [intOf]; omega
                · have hk' : k = 16 := by omega
                  subst hk'
                  clear hlt hlen
                  go_wp2
                  go_ret
                  exact ⟨ret_int (by rw [hx.out, M.tail_end]), hbel⟩
end Go.Proofs.YtjfmiomopfjecabGreat

/- The document's device: manifests, chunks. -/
namespace Go.Proofs.YtjfmiomopfjecabGreat
open Go.RowKit Go.Lib

theorem refChunks_any (m : ByteArray) (w : World) (h5 : 5 ≤ m.size) (hs : m.size ≤ maxLen) :
    Calls Tryz.prog 129 #[.string m] w fun e w' => e = .returned (.int .i64 (M.chunksN (M.bz m 4))) ∧ w = w' := by
  have HN := hide (refNumber_in m 4 w hs (by omega) (by omega))
  have HE : Hid ((M.chunksN (M.bz m 4) : Int) = ((M.bz m 4 : Int) + 15) / 16) := by show _ = _; unfold M.chunksN; omega
  have hb := M.bz_lt m 4
  rw [show ((4 : Int).toNat) = 4 from rfl] at HN
  generalize M.bz m 4 = x at *
  go_enter Tryz.func129, Tryz.ntmps129
  (go_wp2_with fail); (refine (unhide HN).mono ?_); (rintro e w' ⟨rfl, rfl⟩)
  go_wp2
  go_ret
  exact ⟨ret_int (by rw [HE.out]; omega), rfl⟩
theorem refSize_any (m : ByteArray) (i : Nat) (w : World) (h5 : 5 ≤ m.size) (hs : m.size ≤ maxLen) (hi : i < M.chunksN (M.bz m 4)) :
    Calls Tryz.prog 152 #[.string m, .int .i64 i] w fun e w' => e = .returned (.int .i64 (M.chunkLen (M.bz m 4) i)) ∧ w = w' := by
  have HN := hide (refNumber_in m 4 w hs (by omega) (by omega))
  have hb := M.bz_lt m 4
  have hi' : 16 * i < M.bz m 4 := by unfold M.chunksN at hi; omega
  have HE : Hid (M.chunkLen (M.bz m 4) i = min 16 (M.bz m 4 - 16 * i)) := rfl
  rw [show ((4 : Int).toNat) = 4 from rfl] at HN
  generalize M.bz m 4 = x at *
  clear hi
  by_cases hc : 16 < (x : Int) - 16 * (i : Int)
  · go_enter Tryz.func152, Tryz.ntmps152
    (go_wp2_with fail); (refine (unhide HN).mono ?_); (rintro e w' ⟨rfl, rfl⟩)
    go_wp2
    go_ret
    exact ⟨ret_int (by rw [HE.out]; omega), rfl⟩
  · go_enter Tryz.func152, Tryz.ntmps152
    (go_wp2_with fail); (refine (unhide HN).mono ?_); (rintro e w' ⟨rfl, rfl⟩)
    go_wp2
    go_ret
    exact ⟨ret_int (by rw [HE.out]; omega), rfl⟩
/-- where the seal stands, or -1 -/
def sealI (s : ByteArray) : Int :=
  match M.sealOf (M.bz s) s.size with
  | none => -1
  | some a => a
theorem refNum_is (s : ByteArray) (i : Nat) : (i < s.size ∧ refNum s i = M.bz s i) ∨ (s.size ≤ i ∧ refNum s i = -1) := by
  by_cases h : i < s.size
  · exact .inl ⟨h, if_pos h⟩
  · exact .inr ⟨by omega, if_neg h⟩
section
variable {s : ByteArray}
theorem sealI_bad (h : refNum s 4 < 1 ∨ 96 < refNum s 4 ∨ refNum s 5 < 1 ∨ 96 < refNum s 5) : sealI s = -1 := by
  have h4 := refNum_is s 4
  have h5 := refNum_is s 5
  have e : M.sealOf (M.bz s) s.size = none := by
    unfold M.sealOf
    rw [if_pos (by omega)]
  unfold sealI
  rw [e]
theorem sealI_ok (h : ¬ (refNum s 4 < 1 ∨ 96 < refNum s 4 ∨ refNum s 5 < 1 ∨ 96 < refNum s 5)) : 6 ≤ s.size ∧ refNum s 4 = M.bz s 4 ∧ 1 ≤ M.bz s 4 ∧ M.bz s 4 ≤ 96 ∧ ¬ (s.size ≤ 5 ∨ M.bz s 4 < 1 ∨ 96 < M.bz s 4 ∨ M.bz s 5 < 1 ∨ 96 < M.bz s 5) := by
  have h4 := refNum_is s 4
  have h5 := refNum_is s 5
  omega
theorem sealI_zero (h : ¬ (s.size ≤ 5 ∨ M.bz s 4 < 1 ∨ 96 < M.bz s 4 ∨ M.bz s 5 < 1 ∨ 96 < M.bz s 5)) (hT : refNum s (8 + 2 * M.chunksN (M.bz s 4)) = 0) : sealI s = 9 + 2 * M.chunksN (M.bz s 4) := by
  have ht := refNum_is s (8 + 2 * M.chunksN (M.bz s 4))
  have e : M.sealOf (M.bz s) s.size = some (9 + 2 * M.chunksN (M.bz s 4)) := by
    unfold M.sealOf
    rw [if_neg h, if_neg (by omega), if_pos (by omega)]
  unfold sealI
  rw [e]
  show ((9 + 2 * M.chunksN (M.bz s 4) : Nat) : Int) = _
  omega
theorem sealI_else (h : ¬ (s.size ≤ 5 ∨ M.bz s 4 < 1 ∨ 96 < M.bz s 4 ∨ M.bz s 5 < 1 ∨ 96 < M.bz s 5)) (hT : refNum s (8 + 2 * M.chunksN (M.bz s 4)) ≠ 0) (hT1 : refNum s (8 + 2 * M.chunksN (M.bz s 4)) ≠ 1) : sealI s = -1 := by
  have ht := refNum_is s (8 + 2 * M.chunksN (M.bz s 4))
  have e : M.sealOf (M.bz s) s.size = none := by
    unfold M.sealOf
    rw [if_neg h]
    by_cases hc : s.size ≤ 8 + 2 * M.chunksN (M.bz s 4)
    · rw [if_pos hc]
    · rw [if_neg hc, if_neg (by omega), if_neg (by omega)]
  unfold sealI
  rw [e]
theorem sealI_one_bad (h : ¬ (s.size ≤ 5 ∨ M.bz s 4 < 1 ∨ 96 < M.bz s 4 ∨ M.bz s 5 < 1 ∨ 96 < M.bz s 5)) (hT1 : refNum s (8 + 2 * M.chunksN (M.bz s 4)) = 1)
    (hq : refNum s (9 + 2 * M.chunksN (M.bz s 4)) < 0 ∨ 8 < refNum s (9 + 2 * M.chunksN (M.bz s 4)) ∨ refNum s (10 + 2 * M.chunksN (M.bz s 4)) < 0 ∨ 8 < refNum s (10 + 2 * M.chunksN (M.bz s 4))) : sealI s = -1 := by
  have ht := refNum_is s (8 + 2 * M.chunksN (M.bz s 4))
  have h9 := refNum_is s (9 + 2 * M.chunksN (M.bz s 4))
  have h10 := refNum_is s (10 + 2 * M.chunksN (M.bz s 4))
  have e : M.sealOf (M.bz s) s.size = none := by
    unfold M.sealOf
    rw [if_neg h, if_neg (by omega), if_neg (by omega), if_pos (by omega), if_pos (by omega)]
  unfold sealI
  rw [e]
theorem sealI_one (h : ¬ (s.size ≤ 5 ∨ M.bz s 4 < 1 ∨ 96 < M.bz s 4 ∨ M.bz s 5 < 1 ∨ 96 < M.bz s 5)) (hT1 : refNum s (8 + 2 * M.chunksN (M.bz s 4)) = 1)
    (hq : ¬ (refNum s (9 + 2 * M.chunksN (M.bz s 4)) < 0 ∨ 8 < refNum s (9 + 2 * M.chunksN (M.bz s 4)) ∨ refNum s (10 + 2 * M.chunksN (M.bz s 4)) < 0 ∨ 8 < refNum s (10 + 2 * M.chunksN (M.bz s 4)))) :
    sealI s = 8 + 2 * M.chunksN (M.bz s 4) + 3 + refNum s (9 + 2 * M.chunksN (M.bz s 4)) + refNum s (10 + 2 * M.chunksN (M.bz s 4)) := by
  have ht := refNum_is s (8 + 2 * M.chunksN (M.bz s 4))
  have h9 := refNum_is s (9 + 2 * M.chunksN (M.bz s 4))
  have h10 := refNum_is s (10 + 2 * M.chunksN (M.bz s 4))
  have e : M.sealOf (M.bz s) s.size = some (11 + 2 * M.chunksN (M.bz s 4) + M.bz s (9 + 2 * M.chunksN (M.bz s 4)) + M.bz s (10 + 2 * M.chunksN (M.bz s 4))) := by
    unfold M.sealOf
    rw [if_neg h, if_neg (by omega), if_neg (by omega), if_pos (by omega), if_neg (by omega)]
  unfold sealI
  rw [e]
  show ((11 + 2 * M.chunksN (M.bz s 4) + M.bz s (9 + 2 * M.chunksN (M.bz s 4)) + M.bz s (10 + 2 * M.chunksN (M.bz s 4)) : Nat) : Int) = _
  omega
theorem refNumber_at (s : ByteArray) (i : Nat) (k : Int) (w : World) (hs : s.size ≤ maxLen) (hk : k = i) :
    Calls Tryz.prog 117 #[.string s, .int .i64 k] w fun e w' => e = .returned (.int .i64 (refNum s i)) ∧ w = w' := by
  subst hk
  have h := refNumber_any s i w hs (by omega)
  rwa [Int.toNat_natCast] at h
set_option maxRecDepth 10000 in
set_option maxHeartbeats 1000000 in
theorem refSeal_any (s : ByteArray) (w : World) (hs : s.size ≤ maxLen) :
    Calls Tryz.prog 155 #[.string s] w fun e w' => e = .returned (.int .i64 (sealI s)) ∧ w = w' := by
  have H4 := hide (refNumber_at s 4 4 w hs rfl)
  have H5 := hide (refNumber_at s 5 5 w hs rfl)
  have b4 := refNum_bd s 4
  have b5 := refNum_bd s 5
  by_cases hbad : refNum s 4 < 1 ∨ 96 < refNum s 4 ∨ refNum s 5 < 1 ∨ 96 < refNum s 5
  · have HE := hide (sealI_bad hbad)
    generalize refNum s 4 = P at *
    generalize refNum s 5 = N at *
    have hc : P < 1 ∨ (¬ P < 1 ∧ 96 < P) ∨ (¬ P < 1 ∧ ¬ 96 < P ∧ N < 1) ∨ (¬ P < 1 ∧ ¬ 96 < P ∧ ¬ N < 1 ∧ 96 < N) := by omega
    clear hbad
    rcases hc with h1 | ⟨h1, h2⟩ | ⟨h1, h2, h3⟩ | ⟨h1, h2, h3, h4⟩
    all_goals
      go_enter Tryz.func155, Tryz.ntmps155
      (go_wp2_with fail); (refine (unhide H4).mono ?_); (rintro e w' ⟨rfl, rfl⟩)
      (go_wp2_with fail); (refine (unhide H5).mono ?_); (rintro e w' ⟨rfl, rfl⟩)
      go_wp2
      go_ret
      exact ⟨ret_int HE.out.symm, rfl⟩
  · obtain ⟨h6, e4, g1, g96, hok⟩ := sealI_ok hbad
    have HC := hide (refChunks_any s w (by omega) hs)
    have hc6 : M.chunksN (M.bz s 4) ≤ 6 := by unfold M.chunksN; omega
    have HT := hide (fun k hk => refNumber_at s (8 + 2 * M.chunksN (M.bz s 4)) k w hs hk)
    have HQ := hide (fun k hk => refNumber_at s (9 + 2 * M.chunksN (M.bz s 4)) k w hs hk)
    have HA := hide (fun k hk => refNumber_at s (10 + 2 * M.chunksN (M.bz s 4)) k w hs hk)
    have hE0 := sealI_zero hok
    have hE1 := sealI_else hok
    have hE2 := sealI_one_bad hok
    have hE3 := sealI_one hok
    have bT := refNum_bd s (8 + 2 * M.chunksN (M.bz s 4))
    have bQ := refNum_bd s (9 + 2 * M.chunksN (M.bz s 4))
    have bA := refNum_bd s (10 + 2 * M.chunksN (M.bz s 4))
    clear e4 g1 g96 hok
    generalize refNum s (8 + 2 * M.chunksN (M.bz s 4)) = T at *
    generalize refNum s (9 + 2 * M.chunksN (M.bz s 4)) = Q at *
    generalize refNum s (10 + 2 * M.chunksN (M.bz s 4)) = A at *
    generalize M.chunksN (M.bz s 4) = c at *
    generalize refNum s 4 = P at *
    generalize refNum s 5 = N at *
    have h1 : ¬ P < 1 := by omega
    have h2 : ¬ 96 < P := by omega
    have h3 : ¬ N < 1 := by omega
    have h4 : ¬ 96 < N := by omega
    clear hbad
    by_cases t0 : T = 0
    · have HE := hide (hE0 t0)
      subst t0
      clear hE0 hE1 hE2 hE3
      go_enter Tryz.func155, Tryz.ntmps155
      (go_wp2_with fail); (refine (unhide H4).mono ?_); (rintro e w' ⟨rfl, rfl⟩)
      (go_wp2_with fail); (refine (unhide H5).mono ?_); (rintro e w' ⟨rfl, rfl⟩)
      (go_wp2_with fail); (refine (unhide HC).mono ?_); (rintro e w' ⟨rfl, rfl⟩)
      (go_wp2_with fail); (refine (unhide HT _ (by omega)).mono ?_); (rintro e w' ⟨rfl, rfl⟩)
      go_wp2
      go_ret
      exact ⟨ret_int (by rw [HE.out]; omega), rfl⟩
    · by_cases t1 : T = 1
      · by_cases hq : Q < 0 ∨ 8 < Q ∨ A < 0 ∨ 8 < A
        · have HE := hide (hE2 t1 hq)
          subst t1
          clear hE0 hE1 hE2 hE3
          have hc : Q < 0 ∨ (¬ Q < 0 ∧ 8 < Q) ∨ (¬ Q < 0 ∧ ¬ 8 < Q ∧ A < 0) ∨ (¬ Q < 0 ∧ ¬ 8 < Q ∧ ¬ A < 0 ∧ 8 < A) := by omega
          clear hq
          rcases hc with q1 | ⟨q1, q2⟩ | ⟨q1, q2, q3⟩ | ⟨q1, q2, q3, q4⟩
          all_goals
            go_enter Tryz.func155, Tryz.ntmps155
            (go_wp2_with fail); (refine (unhide H4).mono ?_); (rintro e w' ⟨rfl, rfl⟩)
            (go_wp2_with fail); (refine (unhide H5).mono ?_); (rintro e w' ⟨rfl, rfl⟩)
            (go_wp2_with fail); (refine (unhide HC).mono ?_); (rintro e w' ⟨rfl, rfl⟩)
            (go_wp2_with fail); (refine (unhide HT _ (by omega)).mono ?_); (rintro e w' ⟨rfl, rfl⟩)
            (go_wp2_with fail); (refine (unhide HQ _ (by omega)).mono ?_); (rintro e w' ⟨rfl, rfl⟩)
            (go_wp2_with fail); (refine (unhide HA _ (by omega)).mono ?_); (rintro e w' ⟨rfl, rfl⟩)
            go_wp2
            go_ret
            exact ⟨ret_int HE.out.symm, rfl⟩
        · have HE := hide (hE3 t1 hq)
          subst t1
          clear hE0 hE1 hE2 hE3
          have q1 : ¬ Q < 0 := by omega
          have q2 : ¬ 8 < Q := by omega
          have q3 : ¬ A < 0 := by omega
          have q4 : ¬ 8 < A := by omega
          clear hq
          go_enter Tryz.func155, Tryz.ntmps155
          (go_wp2_with fail); (refine (unhide H4).mono ?_); (rintro e w' ⟨rfl, rfl⟩)
          (go_wp2_with fail); (refine (unhide H5).mono ?_); (rintro e w' ⟨rfl, rfl⟩)
          (go_wp2_with fail); (refine (unhide HC).mono ?_); (rintro e w' ⟨rfl, rfl⟩)
          (go_wp2_with fail); (refine (unhide HT _ (by omega)).mono ?_); (rintro e w' ⟨rfl, rfl⟩)
          (go_wp2_with fail); (refine (unhide HQ _ (by omega)).mono ?_); (rintro e w' ⟨rfl, rfl⟩)
          (go_wp2_with fail); (refine (unhide HA _ (by omega)).mono ?_); (rintro e w' ⟨rfl, rfl⟩)
          go_wp2
          go_ret
          exact ⟨ret_int (by rw [HE.out]), rfl⟩
      · have HE := hide (hE1 t0 t1)
        clear hE0 hE1 hE2 hE3
        go_enter Tryz.func155, Tryz.ntmps155
        (go_wp2_with fail); (refine (unhide H4).mono ?_); (rintro e w' ⟨rfl, rfl⟩)
        (go_wp2_with fail); (refine (unhide H5).mono ?_); (rintro e w' ⟨rfl, rfl⟩)
        (go_wp2_with fail); (refine (unhide HC).mono ?_); (rintro e w' ⟨rfl, rfl⟩)
        (go_wp2_with fail); (refine (unhide HT _ (by omega)).mono ?_); (rintro e w' ⟨rfl, rfl⟩)
        go_wp2
        go_ret
        exact ⟨ret_int HE.out.symm, rfl⟩
end
end Go.Proofs.YtjfmiomopfjecabGreat

/- The document's device: is it a manifest; that in the flash; what is missing; what it tells of itself. -/
namespace Go.Proofs.YtjfmiomopfjecabGreat
open Go.RowKit Go.Lib

theorem man_is (key s : ByteArray) : M.isManifest key s = if sealI s < 0 ∨ (s.size : Int) ≠ sealI s + 2 then false else decide (M.bz s (sealI s).toNat * 256 + M.bz s ((sealI s).toNat + 1) = M.crc (key ++ M.mk (sealI s).toNat (M.bz s)).data.toList) := by
  unfold M.isManifest sealI
  cases h : M.sealOf (M.bz s) s.size with
  | none => simp
  | some a =>
    show (decide (s.size = a + 2) && decide (M.bz s a * 256 + M.bz s (a + 1) = M.crc (key ++ M.mk a (M.bz s)).data.toList)) = if ((a : Int) < 0 ∨ (s.size : Int) ≠ (a : Int) + 2) then false else decide (M.bz s (a : Int).toNat * 256 + M.bz s ((a : Int).toNat + 1) = M.crc (key ++ M.mk (a : Int).toNat (M.bz s)).data.toList)
    by_cases hz : s.size = a + 2
    · rw [if_neg (by omega), decide_eq_true hz, Int.toNat_natCast]
      simp
    · rw [if_pos (by omega), decide_eq_false hz]
      simp
theorem extract_zero (s : ByteArray) (n : Nat) (h : n ≤ s.size) : s.extract 0 n = M.mk n (M.bz s) := by
  have := M.extract_mk s 0 n (by omega)
  rw [Nat.zero_add] at this
  rw [this]
  exact M.mk_congr fun j _ => by rw [Nat.zero_add]
set_option maxRecDepth 10000 in
set_option maxHeartbeats 1000000 in
theorem refManifest_any (key s : ByteArray) (w : World) (hk : key.size ≤ 16) (hs : s.size ≤ maxLen) :
    Calls Tryz.prog 150 #[.string key, .string s] w fun e w' => e = .returned (.bool (M.isManifest key s)) ∧ Below w.heap.size w w' := by
  have HS := hide (refSeal_any s w hs)
  have hs' := hs
  unfold maxLen at hs'
  by_cases h1 : sealI s < 0
  · have HE : Hid (M.isManifest key s = false) := by show _ = _; rw [man_is, if_pos (.inl h1)]
    generalize sealI s = a at *
    go_enter Tryz.func150, Tryz.ntmps150
    (go_wp2_with fail); (refine (unhide HS).mono ?_); (rintro e w' ⟨rfl, rfl⟩)
    go_wp2
    go_ret
    exact ⟨ret_bool HE.out.symm, Below.refl _ _⟩
  · by_cases h2 : (s.size : Int) = sealI s + 2
    · have ha : ∃ a : Nat, sealI s = a ∧ a ≤ 39 := by
        unfold sealI at h1 ⊢
        cases h : M.sealOf (M.bz s) s.size with
        | none => rw [h] at h1; exact absurd (by show (-1 : Int) < 0; omega) h1
        | some a => exact ⟨a, rfl, (M.sealOf_le h).1⟩
      obtain ⟨a, ea, ha39⟩ := ha
      have hsz : s.size = a + 2 := by rw [ea] at h2; omega
      have HE : Hid (M.isManifest key s = decide (M.bz s a * 256 + M.bz s (a + 1) = M.crc (key ++ s.extract 0 a).data.toList)) := by
        show _ = _
        rw [man_is, if_neg (by omega), ea, Int.toNat_natCast, extract_zero s a (by omega)]
      have HW := hide (fun w => refWord_any s a w hs (by omega) (by omega))
      have hz : (key ++ s.extract 0 a).size ≤ 60 := by
        rw [extract_zero s a (by omega)]
        simp [M.mk_size]
        omega
      have HSUM := hide (fun w => refSum_any (key ++ s.extract 0 a) w (by omega))
      rw [Int.toNat_natCast] at HW
      rw [ea] at HS
      have hz2 : (s.extract 0 a).size = a := by rw [extract_zero s a (by omega), M.mk_size]
      have b1 := M.bz_lt s a
      have b2 := M.bz_lt s (a + 1)
      have hcl := M.crc_lt (key ++ s.extract 0 a).data.toList
      have HQ : Hid ((((M.bz s a : Int) * 256 + (M.bz s (a + 1) : Int)) == (M.crc (key ++ s.extract 0 a).data.toList : Int)) = decide (M.bz s a * 256 + M.bz s (a + 1) = M.crc (key ++ s.extract 0 a).data.toList)) := by
        show _ = _
        rw [Bool.eq_iff_iff]
        simp
        omega
      have HQ2 := hide (HE.out.trans HQ.out.symm)
      have hq1 : (a : Int) ≤ (s.size : Int) := by omega
      have ha2 : (s.size : Int) = (a : Int) + 2 := by omega
      clear HE HQ h1 h2 ea hsz
      generalize M.crc (key ++ s.extract 0 a).data.toList = C at *
      generalize hX : (M.bz s a : Int) * 256 + (M.bz s (a + 1) : Int) = X at *
      have hnl : ¬ 9223372036854775807 < key.size + a := by omega
      go_enter Tryz.func150, Tryz.ntmps150
      (go_wp2_with fail); (refine (unhide HS).mono ?_); (rintro e w' ⟨rfl, rfl⟩)
      go_wp2_with fail
      have hq0 : (0 : Int) ≤ (a : Int) := by omega
      clear ha2
      go_region_held3 (fun _ => True) (first | trivial | (intros; trivial)) ((first | (go_at_call 147; with_reducible refine (unhide HW _).mono ?_; rintro y wN ⟨rfl, rfl⟩) | (go_at_call 153; with_reducible refine (unhide HSUM _).mono ?_; rintro y wN ⟨rfl, hbN⟩)))
      all_goals
        have HB := hide ((Below.refl _ w).drew.trans hbN)
        clear hbN
        go_wp2
        go_ret
        exact ⟨ret_bool HQ2.out.symm, unhide HB⟩
    · have HE : Hid (M.isManifest key s = false) := by show _ = _; rw [man_is, if_pos (.inr h2)]
      have hb : sealI s ≤ 39 := by
        unfold sealI
        cases h : M.sealOf (M.bz s) s.size with
        | none => show (-1 : Int) ≤ 39; omega
        | some a => show (a : Int) ≤ 39; have := (M.sealOf_le h).1; omega
      have h2' : ¬ sealI s + 2 = (s.size : Int) := fun e => h2 e.symm
      have h2'' : ((s.size : Int) != sealI s + 2) = true := by simp [h2]
      generalize sealI s = a at *
      go_enter Tryz.func150, Tryz.ntmps150
      (go_wp2_with fail); (refine (unhide HS).mono ?_); (rintro e w' ⟨rfl, rfl⟩)
      go_wp2
      go_ret
      exact ⟨ret_bool HE.out.symm, Below.refl _ _⟩
section
variable {W : World} {g : Nat} {d : M.Dev}
theorem mf_bytes {F : Nat → Nat} (hF : ∀ j, F j < 256) (j : Nat) : M.mf F j < 256 := hF _
theorem three_pages {F : Nat → Nat} (hF : ∀ j, F j < 256) : pageT F 2 ++ pageT F 3 ++ pageT F 4 = M.mk 48 (M.mf F) := by
  have e2 : (pageT F 2).size = 16 := pageT_size (p := 2) (by omega)
  have e3 : (pageT F 3).size = 16 := pageT_size (p := 3) (by omega)
  have e4 : (pageT F 4).size = 16 := pageT_size (p := 4) (by omega)
  refine M.bz_ext (by simp [M.mk_size, e2, e3, e4]) fun j hj => ?_
  have hj' : j < 48 := by simp [e2, e3, e4] at hj; omega
  rw [M.bz_mk (fun j _ => mf_bytes hF j) hj', M.bz_append, M.bz_append]
  have e23 : (pageT F 2 ++ pageT F 3).size = 32 := by simp [e2, e3]
  rw [e23, e2]
  unfold M.mf
  by_cases h1 : j < 16
  · rw [if_pos (by omega), if_pos h1]
    exact (pageT_bz hF (p := 2) (by omega) h1).trans (by congr 1)
  · by_cases h2 : j < 32
    · rw [if_pos h2, if_neg h1]
      exact (pageT_bz hF (p := 3) (by omega) (by omega)).trans (by congr 1; omega)
    · rw [if_neg h2]
      exact (pageT_bz hF (p := 4) (by omega) (by omega)).trans (by congr 1; omega)
theorem sealI_mf {F : Nat → Nat} (hF : ∀ j, F j < 256) {a : Nat} (h : M.sealOf (M.mf F) 48 = some a) : sealI (M.mk 48 (M.mf F)) = a := by
  have e : M.sealOf (M.bz (M.mk 48 (M.mf F))) 48 = some a := by
    rw [M.sealOf_same (g := M.mf F) (fun j hj => M.bz_mk (fun j _ => mf_bytes hF j) hj)]
    exact h
  unfold sealI
  rw [M.mk_size, e]
/-- the manifest that stands in the flash -/
abbrev manT (F : Nat → Nat) (a : Nat) : ByteArray := M.mk (a + 2) (M.mf F)
set_option maxRecDepth 10000 in
theorem refMan_any (h : RefAt W g d) (hF : ∀ j, d.F j < 256) {a : Nat} (ha : M.sealOf (M.mf d.F) 48 = some a) :
    Calls Tryz.prog 128 #[.pointer (some ⟨g, 0, none⟩)] W fun e w' => e = .returned (.string (manT d.F a)) ∧ W = w' := by
  have H2 := hide (refPage_any h hF 2)
  have H3 := hide (refPage_any h hF 3)
  have H4 := hide (refPage_any h hF 4)
  have HT := hide (three_pages hF)
  have e2 : (pageT d.F 2).size = 16 := pageT_size (p := 2) (by omega)
  have e3 : (pageT d.F 3).size = 16 := pageT_size (p := 3) (by omega)
  have e4 : (pageT d.F 4).size = 16 := pageT_size (p := 4) (by omega)
  have HS := hide (refSeal_any (M.mk 48 (M.mf d.F)) W (by rw [M.mk_size]; unfold maxLen; omega))
  rw [sealI_mf hF ha] at HS
  have ha39 := (M.sealOf_le ha).1
  have hz := M.mk_size 48 (M.mf d.F)
  have HE : Hid ((M.mk 48 (M.mf d.F)).extract 0 (a + 2) = manT d.F a) := by
    show _ = _
    rw [extract_zero _ _ (by rw [M.mk_size]; omega)]
    exact M.mk_congr fun j hj => M.bz_mk (fun j _ => mf_bytes hF j) (by omega)
  clear h hF ha
  generalize pageT d.F 2 = P2 at *
  generalize pageT d.F 3 = P3 at *
  generalize pageT d.F 4 = P4 at *
  generalize M.mk 48 (M.mf d.F) = S at *
  generalize manT d.F a = Tm at *
  go_enter Tryz.func128, Tryz.ntmps128
  (go_wp2_with fail); (refine (unhide H2).mono ?_); (rintro e w' ⟨rfl, rfl⟩)
  (go_wp2_with fail); (refine (unhide H3).mono ?_); (rintro e w' ⟨rfl, rfl⟩)
  (go_wp2_with fail); (refine (unhide H4).mono ?_); (rintro e w' ⟨rfl, rfl⟩)
  go_wp2_with fail
  rw [HT.out]
  refine (unhide HS).mono ?_
  rintro e w' ⟨rfl, rfl⟩
  go_wp2
  go_ret
  exact ⟨ret_string HE.out, rfl⟩
def missK (F : Nat → Nat) (k : Nat) : List Nat := (List.range k).filter fun i => decide (M.fld F 10 / 2 ^ i % 2 = 0)
theorem missK_yes {F : Nat → Nat} {k : Nat} (h : M.fld F 10 / 2 ^ k % 2 = 0) : missK F (k + 1) = missK F k ++ [k] := by
  unfold missK
  rw [List.range_succ, List.filter_append]
  simp [h]
theorem missK_no {F : Nat → Nat} {k : Nat} (h : ¬ M.fld F 10 / 2 ^ k % 2 = 0) : missK F (k + 1) = missK F k := by
  unfold missK
  rw [List.range_succ, List.filter_append]
  simp [h]
theorem missK_all (F : Nat → Nat) : missK F (M.chunksN (M.mf F 4)) = M.missing F := rfl
theorem missK_len (F : Nat → Nat) (k : Nat) : (missK F k).length ≤ k := by
  unfold missK
  exact Nat.le_trans (List.length_filter_le _ _) (by simp)
def natI (l : List Nat) : List Int := l.map fun (n : Nat) => (n : Int)
theorem natI_length (l : List Nat) : (natI l).length = l.length := by unfold natI; simp
theorem half_pow (x k : Nat) : x / 2 ^ k / 2 = x / 2 ^ (k + 1) := by rw [Nat.div_div_eq_div_mul, Nat.pow_succ]
set_option maxRecDepth 10000 in
set_option maxHeartbeats 1000000 in
theorem refMissing_any (h : RefAt W g d) (hF : ∀ j, d.F j < 256) {a : Nat} (ha : M.sealOf (M.mf d.F) 48 = some a) :
    Calls Tryz.prog 94 #[.pointer (some ⟨g, 0, none⟩)] W fun e w' => ∃ v, e = .returned v ∧ w'.ownsRow W.heap.size 3 1 v (natI (M.missing d.F)).length (intCells (natI (M.missing d.F))) ∧ Below W.heap.size W w' := by
  have HM := hide (refMan_any h hF ha)
  have H10 := hide (refField_any h hF 10 (by omega))
  have hle := M.sealOf_le ha
  have hz : (manT d.F a).size = a + 2 := M.mk_size _ _
  have hb4 : M.bz (manT d.F a) 4 = M.mf d.F 4 := M.bz_mk (fun j _ => mf_bytes hF j) (by omega)
  have HC := hide (fun w => refChunks_any (manT d.F a) w (by rw [hz]; omega) (by rw [hz]; unfold maxLen; omega))
  rw [hb4] at HC
  have hc6 : M.chunksN (M.mf d.F 4) ≤ 6 := by unfold M.chunksN; omega
  have hb10 : M.fld d.F 10 < 256 := hF _
  have HALL := hide (missK_all d.F)
  have HY := hide (fun k => missK_yes (F := d.F) (k := k))
  have HN := hide (fun k => missK_no (F := d.F) (k := k))
  have hlen := missK_len d.F
  have HL := hide hlen
  clear h hF ha hle hb4 hlen
  generalize manT d.F a = Tm at *
  generalize hcn : M.chunksN (M.mf d.F 4) = c at *
  generalize hx : M.fld d.F 10 = x at *
  clear hcn
  go_enter Tryz.func94, Tryz.ntmps94
  (go_wp2_with fail); (refine (unhide HM).mono ?_); (rintro e w' ⟨rfl, rfl⟩)
  (go_wp2_with fail); (refine (unhide H10).mono ?_); (rintro e w' ⟨rfl, rfl⟩)
  go_wp2_with fail
  go_loopw [3, 5, 6] (fun v th i wr => ∃ (k y : Nat) (ao : Option Addr) (cap : Nat), k ≤ c ∧ i = .int .i64 k ∧ th = .int .i64 y ∧ y = x / 2 ^ k ∧ v = .slice ao (natI (missK d.F k)).length cap ∧ wr.ownsRow W.heap.size 3 1 v (natI (missK d.F k)).length (intCells (natI (missK d.F k))) ∧ Below W.heap.size W wr) (fun _ _ i _ => c - (intOf i).toNat)
  case atStart => exact ⟨0, x, none, 0, by omega, rfl, rfl, by simp, rfl, World.ownsRow_nil _ _ _ _, Below.refl _ _⟩
  case round =>
    obtain ⟨k, y, ao, cap, hk, rfl, rfl, hy, rfl, hown, hbel⟩ := hrel
    have hyx : y ≤ x := by rw [hy]; exact Nat.div_le_self _ _
    have hsz := hbel.size
    have hlk := unhide HL k
    have HO := hide hown
    have HB := hide hbel
    clear hown hbel
    by_cases hlt : k < c
    · have HN2 : Hid (y / 2 = x / 2 ^ (k + 1)) := by show _ = _; rw [hy, half_pow]
      have hq2 : (y : Int).tdiv 2 = ((y / 2 : Nat) : Int) := by rw [Int.tdiv_eq_ediv_of_nonneg (by omega)]; omega
      by_cases h0 : y % 2 = 0
      · have hm : missK d.F (k + 1) = missK d.F k ++ [k] := unhide HY k (by rw [← hy]; exact h0)
        have hm2 : natI (missK d.F (k + 1)) = natI (missK d.F k) ++ [(k : Int)] := by rw [hm]; unfold natI; simp
        have HM2 := hide hm2
        have hll : (natI (missK d.F k)).length ≤ k := by rw [natI_length]; exact hlk
        clear hm hm2 hlk hy
        generalize natI (missK d.F k) = l at *
        have hr0 : (y : Int).tmod 2 = 0 := by rw [Int.tmod_eq_emod_of_nonneg (by omega)]; omega
        (go_wp2_with fail); (refine (unhide HC _).mono ?_); (rintro e w' ⟨rfl, rfl⟩)
        go_wp2_with (at_builtin; (refine append_int _ rfl (.tmp 20) (.tmp 22) rfl W.heap.size _ l (k : Int) rfl rfl (unhide HO) (by omega) hsz ?_); intro v' w1 hown1 hbel1 hsz1)
        obtain ⟨ao', cap', hv', -⟩ := (holdsRow_own hown1).shape
        subst hv'
        have HR := hide hown1
        have HB1 := hide (hbel1 _ (unhide HB))
        clear hown1 hbel1
        go_roundw
        case rel => exact ⟨k + 1, y / 2, ao', cap', by omega, by go_num, ret_num rfl, HN2.out, by rw [HM2.out], by rw [HM2.out]; exact unhide HR, unhide HB1⟩
        case measure => simp [intOf]; omega
      · have HM2 : Hid (missK d.F (k + 1) = missK d.F k) := unhide HN k (by rw [← hy]; exact h0)
        have hr0 : ¬ (y : Int).tmod 2 = 0 := by rw [Int.tmod_eq_emod_of_nonneg (by omega)]; omega
        clear hy
        (go_wp2_with fail); (refine (unhide HC _).mono ?_); (rintro e w' ⟨rfl, rfl⟩)
        go_wp2
        go_roundw
        case rel => exact ⟨k + 1, y / 2, ao, cap, by omega, by go_num, ret_num rfl, HN2.out, by rw [HM2.out], by rw [HM2.out]; exact unhide HO, unhide HB⟩
        case measure => simp [intOf]; omega
    · have hkc : k = c := by omega
      subst hkc
      rw [HALL.out] at HO ⊢
      (go_wp2_with fail); (refine (unhide HC _).mono ?_); (rintro e w' ⟨rfl, rfl⟩)
      go_wp2
      go_ret
      exact ⟨_, rfl, unhide HO, unhide HB⟩
end
end Go.Proofs.YtjfmiomopfjecabGreat

/- The document's device: the plan of an event, and the pages that it writes. -/
namespace Go.Proofs.YtjfmiomopfjecabGreat
open Go.RowKit Go.Lib

theorem infoS : (Tryz.prog.info? 9).map (fun i => (i.zero, i.size, i.bytes)) = some (some (.string ⟨#[]⟩), 1, 16) := by kernel_rfl
abbrev plC (va vt : Value) (err ver : Int) (text : ByteArray) (ask wait next age : Int) (on : Bool) : Array Value := #[va, vt, .int .i64 err, .int .i64 ver, .string text, .int .i64 ask, .int .i64 wait, .int .i64 next, .int .i64 age, .bool on]
def atsL (l : List GW) : List Int := l.map fun a => (a.1 : Int)
def txtC (l : List GW) : List Value := l.map fun a => .string a.2
theorem atsL_snoc (l : List GW) (a : GW) : atsL (l ++ [a]) = atsL l ++ [(a.1 : Int)] := by simp [atsL]
theorem txtC_snoc (l : List GW) (a : GW) : txtC (l ++ [a]) = txtC l ++ [.string a.2] := by simp [txtC]
theorem atsL_length (l : List GW) : (atsL l).length = l.length := by simp [atsL]
theorem txtC_length (l : List GW) : (txtC l).length = l.length := by simp [txtC]
/-- a plan in memory: what it writes, the answer, what the device remembers; all that it holds lies behind its box -/
structure PlanAt (X : World) (q : Nat) (l : List GW) (err ver : Int) (text : ByteArray) (ask wait next age : Int) (on : Bool) : Prop where
  body : ∃ (ao : Option Addr) (ca : Nat) (to : Option Addr) (ct : Nat), X.heap[q]? = some (.cells (plC (.slice ao l.length ca) (.slice to l.length ct) err ver text ask wait next age on) 149 (0, 0)) ∧
    X.ownsRow (q + 1) 3 1 (.slice ao l.length ca) l.length (intCells (atsL l)) ∧ X.ownsRow (q + 1) 9 1 (.slice to l.length ct) l.length (txtC l)
/-- rows of two kinds lie in two blocks -/
theorem own_apart {X : World} {B1 B2 : Nat} {e1 e2 : TypeId} {s1 s2 : Nat} {v1 v2 : Value} {n1 n2 : Nat} {x1 x2 : List Value} (he : e1 ≠ e2) (h1 : X.ownsRow B1 e1 s1 v1 n1 x1) (h2 : X.ownsRow B2 e2 s2 v2 n2 x2) : v1.ownBlock = none ∨ v1.ownBlock ≠ v2.ownBlock := by
  rcases h1.2 with ⟨rfl, _⟩ | ⟨g1, c1, u1, rfl, _, k1, _⟩
  · exact .inl rfl
  · rcases h2.2 with ⟨rfl, _⟩ | ⟨g2, c2, u2, rfl, _, k2, _⟩
    · exact .inr (by simp [Value.ownBlock])
    · refine .inr fun hh => ?_
      simp only [Value.ownBlock, Option.some.injEq] at hh
      subst hh
      rw [k1] at k2
      simp only [Option.some.injEq, Obj.cells.injEq] at k2
      exact he k2.2.1
/-- 'l = append(l, x)': and what becomes of all else -/
theorem append_more {ops : Array Oper} {rest : List Oper} {o : Oper} {a : Act} {Q : Exit → Act → World → Prop} (w : World) (hgd : o.guard = none) (s x : Operand) (t : TypeId)
    (ho : o.op = .call { callee := .builtin .append, args := #[s, x], argTypes := #[t, t] })
    (base : Nat) (e : TypeId) (i : TypeInfo) (z : Value) (bytes : Nat) (ht : Tryz.prog.underlying t = some (.slice e)) (hi : Tryz.prog.info? e = some i) (hz : i.zero = some z)
    (hsize : i.size = 1) (hby : i.bytes = bytes) (hzs : z.cells.size = 1)
    (v : Value) (n : Nat) (xs : List Value) (hs : a.eval s = v) (hown : w.ownsRow base e 1 v n xs)
    (y : Value) (hx : a.eval x = .slice (some ⟨w.heap.size, 0, none⟩) 1 1) (h1 : y.oneCell' = true)
    (hn : n + 1 ≤ 1000000) (hb : bytes ≤ 1000) (hbase : base ≤ w.heap.size)
    (h : ∀ v' w', w'.ownsRow base e 1 v' (n + 1) (xs ++ [y]) → (w.alloc (.cells #[y] e)).grownBy w' v.ownBlock → Below base w w' → wpList Tryz.prog ops Q rest (a.put o.dst v') w') :
    wpList Tryz.prog ops Q (o :: rest) a (w.alloc (.cells #[y] e)) := by
  refine wpList_append_own _ hgd s x t ho base e i z 1 bytes ht hi hz hsize hby hzs (by decide) v n xs hs (hown.alloc _) ⟨w.heap.size, 0, none⟩ 1 1 [y] hx rfl ?_ (fun u hu => by simp at hu; subst hu; exact h1) (by unfold maxLen; omega) ?_ ?_ ?_
  · intro j u hj
    rw [add_at, World.cell?_alloc_at _ _ _ _ rfl]
    simpa using hj
  · exact Nat.le_trans (Nat.mul_le_mul hn hb) (by omega)
  · have : (w.alloc (.cells #[y] e)).heap.size = w.heap.size + 1 := by simp
    omega
  · intro v' w' hown' hgrow _
    refine h v' w' hown' hgrow ?_
    exact ((Below.refl base w).alloc hbase _).grown hgrow (by simp; omega) (fun k hk => (hown.lt k hk).1)
theorem append_at {ops : Array Oper} {rest : List Oper} {o : Oper} {a : Act} {Q : Exit → Act → World → Prop} (w : World) (hgd : o.guard = none) (s x : Operand)
    (ho : o.op = .call { callee := .builtin .append, args := #[s, x], argTypes := #[49, 49] })
    (base : Nat) (v : Value) (n : Nat) (xs : List Value) (y : Int) (hs : a.eval s = v) (hx : a.eval x = .slice (some ⟨w.heap.size, 0, none⟩) 1 1)
    (hown : w.ownsRow base 3 1 v n xs) (hn : n + 1 ≤ 1000000) (hbase : base ≤ w.heap.size)
    (h : ∀ v' w', w'.ownsRow base 3 1 v' (n + 1) (xs ++ [.int .i64 y]) → (w.alloc (.cells #[.int .i64 y] 3)).grownBy w' v.ownBlock → Below base w w' → wpList Tryz.prog ops Q rest (a.put o.dst v') w') :
    wpList Tryz.prog ops Q (o :: rest) a (w.alloc (.cells #[.int .i64 y] 3)) := by
  obtain ⟨i0, hi, hz0, hz1, hz2⟩ := info_parts infoI
  exact append_more w hgd s x 49 ho base 3 i0 (.int .i64 0) 8 Tryz.underlying49 hi hz0 hz1 hz2 rfl v n xs hs hown (.int .i64 y) hx rfl hn (by omega) hbase h
theorem append_txt {ops : Array Oper} {rest : List Oper} {o : Oper} {a : Act} {Q : Exit → Act → World → Prop} (w : World) (hgd : o.guard = none) (s x : Operand)
    (ho : o.op = .call { callee := .builtin .append, args := #[s, x], argTypes := #[147, 147] })
    (base : Nat) (v : Value) (n : Nat) (xs : List Value) (y : ByteArray) (hs : a.eval s = v) (hx : a.eval x = .slice (some ⟨w.heap.size, 0, none⟩) 1 1)
    (hown : w.ownsRow base 9 1 v n xs) (hn : n + 1 ≤ 1000000) (hbase : base ≤ w.heap.size)
    (h : ∀ v' w', w'.ownsRow base 9 1 v' (n + 1) (xs ++ [.string y]) → (w.alloc (.cells #[.string y] 9)).grownBy w' v.ownBlock → Below base w w' → wpList Tryz.prog ops Q rest (a.put o.dst v') w') :
    wpList Tryz.prog ops Q (o :: rest) a (w.alloc (.cells #[.string y] 9)) := by
  obtain ⟨i0, hi, hz0, hz1, hz2⟩ := info_parts infoS
  exact append_more w hgd s x 147 ho base 9 i0 (.string ⟨#[]⟩) 16 Tryz.underlying147 hi hz0 hz1 hz2 rfl v n xs hs hown (.string y) hx rfl hn (by omega) hbase h
theorem own_low {W : World} {base g o : Nat} {u : Value} {e : TypeId} {size : Nat} {v : Value} {n : Nat} {xs : List Value} (hg : g < base) (h : W.ownsRow base e size v n xs) : (W.setCell ⟨g, o, none⟩ u).ownsRow base e size v n xs := ownsRow_setCell_below h (a := ⟨g, o, none⟩) hg u
set_option maxRecDepth 10000 in
set_option maxHeartbeats 1000000 in
/-- one page more -/
theorem refWrites_any {X : World} {q : Nat} {l : List GW} {err ver : Int} {text : ByteArray} {ask wait next age : Int} {on : Bool} (h : PlanAt X q l err ver text ask wait next age on) (p : Nat) (s : ByteArray) (hs : s.size ≤ 16) (hl : l.length ≤ 50) :
    Calls Tryz.prog 151 #[.pointer (some ⟨q, 0, none⟩), .int .i64 p, .string s] X fun e w' => e = .returned (.tuple #[]) ∧ PlanAt w' q (l ++ [(p, M.mk 16 (M.bz s))]) err ver text ask wait next age on ∧ Below q X w' := by
  obtain ⟨ao, ca, to, ct, hq, hoA, hoT⟩ := h.body
  have hlt : q < X.heap.size := (Array.getElem?_eq_some_iff.1 hq).1
  have HP := hide (fun w => refPadded_any s w hs)
  generalize M.mk 16 (M.bz s) = T at *
  have HGA := hide ((intCells_snoc (atsL l) (p : Int)).symm.trans (congrArg intCells (atsL_snoc l (p, T)).symm))
  have HGT := hide (txtC_snoc l (p, T)).symm
  obtain ⟨hxq, hfq⟩ := block_facts hq
  have HQ := hide hq
  have HOA := hide hoA
  have HOT := hide hoT
  have hlen : (l ++ [(p, T)]).length = l.length + 1 := by simp
  have HLN := hide hlen
  clear h hq hoA hoT hlen hs
  generalize l.length = n at *
  have l1 : q < X.heap.size := (by omega); have n1 : ¬ q = X.heap.size := (by omega)
  go_enter Tryz.func151, Tryz.ntmps151
  go_wp2_with (at_builtin; (refine append_at _ rfl (.tmp 11) (.tmp 13) rfl (q + 1) _ n (intCells (atsL l)) (p : Int) rfl rfl (unhide HOA) (by omega) (by omega) ?_); intro v1 w1 hown1 hgr1 hb1; obtain ⟨ao1, ca1, hv1, -⟩ := (holdsRow_own hown1).shape; subst hv1; have hq1 := (hb1.block q (by omega)).trans (unhide HQ); obtain ⟨hxq1, hfq1⟩ := block_facts hq1; have hs1 := hb1.size; have l2 : q < w1.heap.size := (by omega); have n2 : ¬ q = w1.heap.size := (by omega))
  have hoT1 := ((unhide HOT).alloc (.cells #[.int .i64 p] 3)).kept hgr1 (own_apart (by decide) (unhide HOT) (unhide HOA))
  have HQ1 : Hid ((w1.setCell ⟨q, 0, none⟩ (.slice ao1 (n + 1) ca1)).heap[q]? = some (.cells (plC (.slice ao1 (n + 1) ca1) (.slice to n ct) err ver text ask wait next age on) 149 (0, 0))) := (setCell_in hq1 0 _).trans rfl
  have HOA1 : Hid ((w1.setCell ⟨q, 0, none⟩ (.slice ao1 (n + 1) ca1)).ownsRow (q + 1) 3 1 (.slice ao1 (n + 1) ca1) (n + 1) (intCells (atsL l) ++ [.int .i64 p])) := own_low (by omega) hown1
  have HOT1 : Hid ((w1.setCell ⟨q, 0, none⟩ (.slice ao1 (n + 1) ca1)).ownsRow (q + 1) 9 1 (.slice to n ct) n (txtC l)) := own_low (by omega) hoT1
  have HB1 : Hid (Below q X (w1.setCell ⟨q, 0, none⟩ (.slice ao1 (n + 1) ca1))) := bset (Nat.le_refl _) (hb1.mono (by omega))
  clear hq1 hoT1 hown1 hgr1 hb1 HQ HOA HOT hxq hfq
  (go_wp2_with fail); (refine (unhide HP _).mono ?_); (rintro e w' ⟨rfl, rfl⟩)
  generalize hX1 : (w1.setCell ⟨q, 0, none⟩ (.slice ao1 (n + 1) ca1)) = X1 at *
  have hsX : w1.heap.size = X1.heap.size := by rw [← hX1]; simp [World.setCell]
  clear hX1 hxq1 hfq1 l2 n2
  obtain ⟨hxq2, hfq2⟩ := block_facts (unhide HQ1)
  have l3 : q < X1.heap.size := (by omega); have n3 : ¬ q = X1.heap.size := (by omega)
  go_wp2_with (at_builtin; (refine append_txt _ rfl (.tmp 23) (.tmp 25) rfl (q + 1) _ n (txtC l) T rfl rfl (unhide HOT1) (by omega) (by omega) ?_); intro v2 w2 hown2 hgr2 hb2; obtain ⟨to2, ct2, hv2, -⟩ := (holdsRow_own hown2).shape; subst hv2; have hq2 := (hb2.block q (by omega)).trans (unhide HQ1); obtain ⟨hxq3, hfq3⟩ := block_facts hq2; have hs2 := hb2.size; have l4 : q < w2.heap.size := (by omega); have n4 : ¬ q = w2.heap.size := (by omega))
  have hoA2 := ((unhide HOA1).alloc (.cells #[.string T] 9)).kept hgr2 (own_apart (by decide) (unhide HOA1) (unhide HOT1))
  have HQ2 : Hid ((w2.setCell ⟨q, 1, none⟩ (.slice to2 (n + 1) ct2)).heap[q]? = some (.cells (plC (.slice ao1 (n + 1) ca1) (.slice to2 (n + 1) ct2) err ver text ask wait next age on) 149 (0, 0))) := (setCell_in hq2 1 _).trans rfl
  have HOA2 : Hid ((w2.setCell ⟨q, 1, none⟩ (.slice to2 (n + 1) ct2)).ownsRow (q + 1) 3 1 (.slice ao1 (n + 1) ca1) (n + 1) (intCells (atsL l) ++ [.int .i64 p])) := own_low (by omega) hoA2
  have HOT2 : Hid ((w2.setCell ⟨q, 1, none⟩ (.slice to2 (n + 1) ct2)).ownsRow (q + 1) 9 1 (.slice to2 (n + 1) ct2) (n + 1) (txtC l ++ [.string T])) := own_low (by omega) hown2
  have HB2 : Hid (Below q X (w2.setCell ⟨q, 1, none⟩ (.slice to2 (n + 1) ct2))) := bset (Nat.le_refl _) ((unhide HB1).trans (hb2.mono (by omega)))
  clear hq2 hoA2 hown2 hgr2 hb2 hxq2 hfq2 l3 n3
  refine bodyPost_end (v := .tuple #[]) (by simp [results, Tryz.results151, go_sem]) rfl ⟨rfl, ⟨ao1, ca1, to2, ct2, ?_, ?_, ?_⟩, unhide HB2⟩
  · rw [HLN.out]; exact unhide HQ2
  · rw [HLN.out, ← HGA.out]; exact unhide HOA2
  · rw [HLN.out, ← HGT.out]; exact unhide HOT2
end Go.Proofs.YtjfmiomopfjecabGreat

/- Manifests in plain words, as the program reads them: what is beyond a text counts as 0. -/
namespace Go.Proofs.YtjfmiomopfjecabGreat.M

def numAt (g : Nat → Nat) (i : Nat) : Nat := g i * 256 + g (i + 1)
def sealX (g : Nat → Nat) : Option Nat :=
  if g 4 < 1 ∨ 96 < g 4 ∨ g 5 < 1 ∨ 96 < g 5 then none
  else if g (8 + 2 * chunksN (g 4)) = 0 then some (9 + 2 * chunksN (g 4))
  else if g (8 + 2 * chunksN (g 4)) = 1 then
    (if 8 < g (9 + 2 * chunksN (g 4)) ∨ 8 < g (10 + 2 * chunksN (g 4)) then none
     else some (11 + 2 * chunksN (g 4) + g (9 + 2 * chunksN (g 4)) + g (10 + 2 * chunksN (g 4))))
  else none
theorem sealX_of {g : Nat → Nat} {L at_ : Nat} (h : sealOf g L = some at_) : sealX g = some at_ := by
  unfold sealOf at h
  unfold sealX
  by_cases h1 : L ≤ 5 ∨ g 4 < 1 ∨ 96 < g 4 ∨ g 5 < 1 ∨ 96 < g 5
  · rw [if_pos h1] at h; cases h
  rw [if_neg h1] at h
  rw [if_neg (by omega)]
  by_cases h2 : L ≤ 8 + 2 * chunksN (g 4)
  · rw [if_pos h2] at h; cases h
  rw [if_neg h2] at h
  by_cases h3 : g (8 + 2 * chunksN (g 4)) = 0
  · rw [if_pos h3] at h ⊢; exact h
  rw [if_neg h3] at h ⊢
  by_cases h4 : g (8 + 2 * chunksN (g 4)) = 1
  · rw [if_pos h4] at h ⊢
    by_cases h5 : L ≤ 8 + 2 * chunksN (g 4) + 2 ∨ 8 < g (9 + 2 * chunksN (g 4)) ∨ 8 < g (10 + 2 * chunksN (g 4))
    · rw [if_pos h5] at h; cases h
    · rw [if_neg h5] at h
      rw [if_neg (by omega)]
      exact h
  · rw [if_neg h4] at h; cases h
theorem sealX_le {g : Nat → Nat} {at_ : Nat} (h : sealX g = some at_) : at_ ≤ 39 ∧ 9 + 2 * chunksN (g 4) ≤ at_ ∧ 1 ≤ g 4 ∧ g 4 ≤ 96 ∧ 1 ≤ g 5 ∧ g 5 ≤ 96 ∧ chunksN (g 4) ≤ 6 := by
  unfold sealX at h
  by_cases h1 : g 4 < 1 ∨ 96 < g 4 ∨ g 5 < 1 ∨ 96 < g 5
  · rw [if_pos h1] at h; cases h
  rw [if_neg h1] at h
  have hc : chunksN (g 4) ≤ 6 := by unfold chunksN; omega
  by_cases h3 : g (8 + 2 * chunksN (g 4)) = 0
  · rw [if_pos h3] at h
    have := Option.some.inj h
    omega
  rw [if_neg h3] at h
  by_cases h4 : g (8 + 2 * chunksN (g 4)) = 1
  · rw [if_pos h4] at h
    by_cases h5 : 8 < g (9 + 2 * chunksN (g 4)) ∨ 8 < g (10 + 2 * chunksN (g 4))
    · rw [if_pos h5] at h; cases h
    · rw [if_neg h5] at h
      have := Option.some.inj h
      omega
  · rw [if_neg h4] at h; cases h
/-- the two ways to read a manifest come to the same -/
theorem sealOf_x {g : Nat → Nat} {L at_ : Nat} (h : sealX g = some at_) (hL : at_ ≤ L) : sealOf g L = some at_ := by
  have hle := sealX_le h
  unfold sealX at h
  unfold sealOf
  by_cases h1 : g 4 < 1 ∨ 96 < g 4 ∨ g 5 < 1 ∨ 96 < g 5
  · rw [if_pos h1] at h; cases h
  rw [if_neg h1] at h
  rw [if_neg (by omega), if_neg (by omega)]
  by_cases h3 : g (8 + 2 * chunksN (g 4)) = 0
  · rw [if_pos h3] at h ⊢; exact h
  rw [if_neg h3] at h ⊢
  by_cases h4 : g (8 + 2 * chunksN (g 4)) = 1
  · rw [if_pos h4] at h ⊢
    by_cases h5 : 8 < g (9 + 2 * chunksN (g 4)) ∨ 8 < g (10 + 2 * chunksN (g 4))
    · rw [if_pos h5] at h; cases h
    · rw [if_neg h5] at h
      have := Option.some.inj h
      rw [if_neg (by omega)]
      exact h
  · rw [if_neg h4] at h; cases h
def isMan (key s : ByteArray) : Bool :=
  match sealX (bz s) with
  | none => false
  | some at_ => decide (s.size = at_ + 2) && decide (bz s at_ * 256 + bz s (at_ + 1) = crc (key ++ mk at_ (bz s)).data.toList)
theorem isMan_is (key s : ByteArray) : isMan key s = isManifest key s := by
  unfold isMan isManifest
  cases h : sealX (bz s) with
  | none =>
    cases h2 : sealOf (bz s) s.size with
    | none => rfl
    | some a => rw [sealX_of h2] at h; cases h
  | some at_ =>
    by_cases hs : s.size = at_ + 2
    · rw [sealOf_x h (by omega)]
    · cases h2 : sealOf (bz s) s.size with
      | none => simp [hs]
      | some a =>
        have e := sealX_of h2
        rw [h] at e
        have e2 := Option.some.inj e
        subst e2
        rfl
/-- the sums of the first k chunks, the example -/
def sumsL (g : Nat → Nat) (k : Nat) : List Int := (List.range k).map fun i => (numAt g (8 + 2 * i) : Int)
theorem sumsL_succ (g : Nat → Nat) (k : Nat) : sumsL g (k + 1) = sumsL g k ++ [(numAt g (8 + 2 * k) : Int)] := by
  unfold sumsL
  rw [List.range_succ, List.map_append]
  rfl
theorem sumsL_length (g : Nat → Nat) (k : Nat) : (sumsL g k).length = k := by simp [sumsL]
theorem sumsL_at (g : Nat → Nat) {k i : Nat} (h : i < k) : (sumsL g k).getD i 0 = (numAt g (8 + 2 * i) : Int) := by simp [sumsL, h]
def exB (g : Nat → Nat) : Bool := decide (g (8 + 2 * chunksN (g 4)) = 1)
def exQ (g : Nat → Nat) : ByteArray := if g (8 + 2 * chunksN (g 4)) = 1 then mk (g (9 + 2 * chunksN (g 4))) fun j => g (11 + 2 * chunksN (g 4) + j) else ⟨#[]⟩
def exA (g : Nat → Nat) : ByteArray := if g (8 + 2 * chunksN (g 4)) = 1 then mk (g (10 + 2 * chunksN (g 4))) fun j => g (11 + 2 * chunksN (g 4) + g (9 + 2 * chunksN (g 4)) + j) else ⟨#[]⟩
end Go.Proofs.YtjfmiomopfjecabGreat.M

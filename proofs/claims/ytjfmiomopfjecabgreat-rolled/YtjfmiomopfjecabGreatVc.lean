/- Texts laid together: PatchLeaf, PatchStep, FlashLeaf, PatchRead, PatchTake, FlashPut, RecLeaf, RecMore, RecText. -/
import Derived.Test.YtjfmiomopfjecabGreatVb
import Derived.Test.YtjfmiomopfjecabGreatVa
import Derived.Lib.AppendStr
/- The small functions of patches: a part of a text, rows of bytes as texts, the steps of a patch. -/
namespace Go.Proofs.YtjfmiomopfjecabGreat
open Go.RowKit Go.Lib

theorem ret_part {a b : ByteArray} {c d : Bool} (h1 : a = b) (h2 : c = d) : Ending.returned (.tuple #[.string a, .bool c]) = .returned (.tuple #[.string b, .bool d]) := by rw [h1, h2]

theorem part_yes (s : ByteArray) (a n : Nat) (w : World) (hs : s.size ≤ 2000000) (h : a + n ≤ s.size) :
    Calls Tryz.prog 96 #[.string s, .int .i64 a, .int .i64 n] w fun e w' => e = .returned (.tuple #[.string (M.mk n fun j => M.bz s (a + j)), .bool true]) ∧ w = w' := by
  have HE := hide (M.extract_mk s a n h)
  have h1 : ¬ (s.size : Int) < (a : Int) := by omega
  have h3 : ¬ (s.size : Int) - (a : Int) < (n : Int) := by omega
  have h2 : ((a : Int) + (n : Int)).toNat = a + n := by omega
  go_enter Tryz.func96, Tryz.ntmps96
  go_wp2
  go_ret2
  exact ⟨ret_part HE.out rfl, rfl⟩
theorem part_no (s : ByteArray) (a n : Nat) (w : World) (_hs : s.size ≤ 2000000) (_ha : a ≤ 4000000) (hn : n ≤ 4000000) (h : s.size < a + n) :
    Calls Tryz.prog 96 #[.string s, .int .i64 a, .int .i64 n] w fun e w' => e = .returned (.tuple #[.string ⟨#[]⟩, .bool false]) ∧ w = w' := by
  by_cases h0 : s.size < a
  · have h1 : (s.size : Int) < (a : Int) := by omega
    go_enter Tryz.func96, Tryz.ntmps96
    go_wp2
    go_ret2
    exact ⟨rfl, rfl⟩
  · have h1 : ¬ (s.size : Int) < (a : Int) := by omega
    have h2 : (s.size : Int) - (a : Int) < (n : Int) := by omega
    go_enter Tryz.func96, Tryz.ntmps96
    go_wp2
    go_ret2
    exact ⟨rfl, rfl⟩
theorem taken_yes (s : ByteArray) (a n : Nat) (w : World) (hs : s.size ≤ 2000000) (h : a + n ≤ s.size) :
    Calls Tryz.prog 203 #[.string s, .int .i64 a, .int .i64 n] w fun e w' => e = .returned (.tuple #[.string (M.mk n fun j => M.bz s (a + j)), .bool true]) ∧ w = w' := by
  have HE := hide (M.extract_mk s a n h)
  have h1 : ¬ (s.size : Int) < (a : Int) + (n : Int) := by omega
  have h2 : ((a : Int) + (n : Int)).toNat = a + n := by omega
  go_enter Tryz.func203, Tryz.ntmps203
  go_wp2
  go_ret2
  exact ⟨ret_part HE.out rfl, rfl⟩
theorem taken_no (s : ByteArray) (a n : Int) (w : World) (hs : s.size ≤ 2000000) (ha : -1 ≤ a) (ha' : a ≤ 4000000) (hn : -1 ≤ n) (hn' : n ≤ 4000000) (h : a < 0 ∨ n < 0 ∨ (s.size : Int) < a + n) :
    Calls Tryz.prog 203 #[.string s, .int .i64 a, .int .i64 n] w fun e w' => e = .returned (.tuple #[.string ⟨#[]⟩, .bool false]) ∧ w = w' := by
  by_cases h1 : a < 0
  · clear h
    go_enter Tryz.func203, Tryz.ntmps203
    go_wp2
    go_ret2
    exact ⟨rfl, rfl⟩
  · by_cases h2 : n < 0
    · clear h
      go_enter Tryz.func203, Tryz.ntmps203
      go_wp2
      go_ret2
      exact ⟨rfl, rfl⟩
    · have h3 : (s.size : Int) < a + n := by omega
      clear h
      go_enter Tryz.func203, Tryz.ntmps203
      go_wp2
      go_ret2
      exact ⟨rfl, rfl⟩

/- rows of bytes -/
theorem strCells_append (a b : ByteArray) : strCells (a ++ b) = strCells a ++ strCells b := by
  unfold strCells
  rw [ByteArray.data_append, Array.toList_append, List.map_append]
theorem row_text (w : World) (v : Value) (base : Nat) (o : ByteArray) (h : w.ownsRow base 5 1 v o.size (strCells o)) :
    (convert 79 9 v).run Tryz.prog w = .ok (.string o) w := by
  have hc := fun g => h.cells (g := g)
  rcases h.2 with ⟨rfl, hn⟩ | ⟨g, cap, cur, rfl, hb, hg, h1, h2, h3, h4⟩
  · have : o = ⟨#[]⟩ := M.bz_ext (by rw [hn]; rfl) (fun j hj => by omega)
    subst this
    rw [run_convert_bytes_string _ 79 9 5 _ 0 0 Tryz.underlying79 Tryz.underlying5 Tryz.underlying9]
    rfl
  · have e : strCells o = (o.data.toList.map fun b => (b.toNat : Int)).map (Value.int .u8) := by
      unfold strCells; rw [List.map_map]; rfl
    have hl : (loadCells ⟨g, 0, none⟩ o.size).run Tryz.prog w = .ok ((o.data.toList.map fun b => (b.toNat : Int)).map (Value.int .u8)).toArray w := by
      have h5 := run_loadCells_list (P := Tryz.prog) (w := w) ⟨g, 0, none⟩ (strCells o) (hc g rfl)
      rw [strCells_length, e] at h5
      exact h5
    rw [run_convert_bytes_string _ 79 9 5 _ _ _ Tryz.underlying79 Tryz.underlying5 Tryz.underlying9, run_bytesToString _ _ _ _ _ hl]
    have e2 : ∀ (l : List UInt8) (r : ByteArray), (l.map fun b => (b.toNat : Int)).foldl (fun r n => r.push (UInt8.ofNat n.toNat)) r = ⟨(r.data.toList ++ l).toArray⟩ := by
      intro l
      induction l with
      | nil => intro r; simp
      | cons x l ih => intro r; rw [List.map_cons, List.foldl_cons, ih]; simp [ByteArray.push]
    rw [e2]
    rfl

theorem infoB : (Tryz.prog.info? 5).map (fun i => (i.zero, i.size, i.bytes)) = some (some (.int .u8 0), 1, 1) := by kernel_rfl
theorem append_text {ops : Array Oper} {rest : List Oper} {o : Oper} {a : Act} {Q : Exit → Act → World → Prop} (w : World) (hgd : o.guard = none) (s x : Operand)
    (ho : o.op = .call { callee := .builtin .append, args := #[s, x], argTypes := #[79, 9] })
    (base : Nat) (v : Value) (l t : ByteArray) (hs : a.eval s = v) (hx : a.eval x = .string t)
    (hown : w.ownsRow base 5 1 v l.size (strCells l)) (hn : l.size + t.size ≤ 1000000000) (hbase : base ≤ w.heap.size)
    (h : ∀ v' w', w'.ownsRow base 5 1 v' (l ++ t).size (strCells (l ++ t)) → (∀ w0, Below base w0 w → Below base w0 w') → w.heap.size ≤ w'.heap.size → wpList Tryz.prog ops Q rest (a.put o.dst v') w') :
    wpList Tryz.prog ops Q (o :: rest) a w := by
  obtain ⟨i0, hi, hz0, hz1, hz2⟩ := info_parts infoB
  refine wpList_append_own_string w hgd s x 79 9 ho base 5 i0 Tryz.underlying79 Tryz.underlying9 hi hz0 hz1 hz2 v l.size (strCells l) hs hown t hx (by unfold maxLen; omega) (by omega) hbase ?_
  intro v' w' hown' hgrow _
  refine h v' w' ?_ (fun w0 hb0 => hb0.grown hgrow hbase (fun k hk => (hown.lt k hk).1)) hgrow.size
  rw [ByteArray.size_append, strCells_append]
  exact hown'
theorem byte_cells {y : Nat} (hy : y < 256) : strCells (M.bytesOf [y]) = [.int .u8 (y : Int)] := by
  show [Value.int .u8 ((UInt8.ofNat y).toNat : Int)] = _
  rw [UInt8.toNat_ofNat', Nat.mod_eq_of_lt (by omega)]
theorem append_byte {ops : Array Oper} {rest : List Oper} {o : Oper} {a : Act} {Q : Exit → Act → World → Prop} (W : World) (hgd : o.guard = none) (s x : Operand)
    (ho : o.op = .call { callee := .builtin .append, args := #[s, x], argTypes := #[79, 79] })
    (base : Nat) (v : Value) (l : ByteArray) (y g : Nat) (hy : y < 256) (hs : a.eval s = v) (hx : a.eval x = .slice (some ⟨g, 0, none⟩) 1 1) (hc : W.cell? ⟨g, 0, none⟩ = some (.int .u8 (y : Int)))
    (hown : W.ownsRow base 5 1 v l.size (strCells l)) (hn : l.size + 1 ≤ 1000000) (hbase : base ≤ W.heap.size)
    (h : ∀ v' w', w'.ownsRow base 5 1 v' (l ++ M.bytesOf [y]).size (strCells (l ++ M.bytesOf [y])) → (∀ w0, Below base w0 W → Below base w0 w') → W.heap.size ≤ w'.heap.size → wpList Tryz.prog ops Q rest (a.put o.dst v') w') :
    wpList Tryz.prog ops Q (o :: rest) a W := by
  obtain ⟨i0, hi, hz0, hz1, hz2⟩ := info_parts infoB
  refine wpList_append_own W hgd s x 79 ho base 5 i0 (.int .u8 0) 1 1 Tryz.underlying79 hi hz0 hz1 hz2 rfl (by decide) v l.size (strCells l) hs hown ⟨g, 0, none⟩ 1 1 [.int .u8 (y : Int)] hx rfl ?_ ?_ (by unfold maxLen; omega) (by omega) hbase ?_
  · intro j u hj
    match j, hj with
    | 0, hj => simp at hj; subst hj; rw [add_at]; exact hc
  · intro u hu; simp at hu; subst hu; rfl
  · intro v' w' hown' hgrow _
    refine h v' w' ?_ (fun w0 hb0 => hb0.grown hgrow hbase (fun k hk => (hown.lt k hk).1)) hgrow.size
    rw [ByteArray.size_append, strCells_append, byte_cells hy]
    exact hown'

theorem repeated_any (x n : Nat) (w : World) (hn : n ≤ 255) :
    Calls Tryz.prog 208 #[.string (M.bytesOf [x]), .int .i64 n] w fun e w' => e = .returned (.string (M.mk n fun _ => x)) ∧ Below w.heap.size w w' := by
  have HX := hide (show (M.bytesOf [x]).size = 1 from rfl)
  have HST := hide (fun k => M.mk_succ k fun _ => x)
  generalize M.bytesOf [x] = t at *
  go_enter Tryz.func208, Tryz.ntmps208
  go_wp2_with fail
  go_loopw [5, 6] (fun v i wr => ∃ (k : Nat) (o : ByteArray), k ≤ n ∧ i = .int .i64 k ∧ Hid (o = M.mk k fun _ => x) ∧ wr.ownsRow w.heap.size 5 1 v o.size (strCells o) ∧ Below w.heap.size w wr) (fun _ i _ => n - (intOf i).toNat)
  case atStart => exact ⟨0, ⟨#[]⟩, by omega, rfl, rfl, World.ownsRow_nil _ _ _ _, Below.refl _ _⟩
  case round =>
    obtain ⟨k, o, hk, rfl, ho, hown, hbel⟩ := hrel
    have hsz := hbel.size
    have HZ : Hid (o.size = k) := by rw [ho.out, M.mk_size]; rfl
    by_cases hlt : k < n
    · have HO := hide hown
      have HB := hide hbel
      have HS : Hid (o ++ t = M.mk (k + 1) fun _ => x) := by rw [HST.out k, ← ho.out]; rfl
      clear hown hbel
      go_wp2_with (at_builtin; (refine append_text _ rfl (.tmp 12) (.tmp 13) rfl w.heap.size u5 o t rfl rfl (unhide HO) (by rw [HX.out, HZ.out]; omega) hsz ?_); intro v' w1 hown1 hbel1 hsz1)
      have HR := hide hown1
      have HB1 := hide (hbel1 _ (unhide HB))
      clear hown1 hbel1
      go_roundw
      case rel => exact ⟨k + 1, _, by omega, by go_num, HS, unhide HR, unhide HB1⟩
      case measure => simp [intOf]; omega
    · have hkn : k = n := by omega
      subst hkn
      have hr := row_text _ _ _ _ hown
      have HB := hide hbel
      clear hown hbel
      go_wp2
      go_ret
      exact ⟨ret_string ho.out, unhide HB⟩
end Go.Proofs.YtjfmiomopfjecabGreat

/- The steps of a patch: added, fits, gives, read. -/
namespace Go.Proofs.YtjfmiomopfjecabGreat
open Go.RowKit Go.Lib

theorem wordByte_nat (s : ByteArray) (i : Nat) (w : World) (hs : s.size ≤ maxLen) :
    Calls Tryz.prog 100 #[.string s, .int .i64 i] w fun e w' => e = .returned (.int .i64 (M.bz s i)) ∧ w = w' := by
  have h := wordByte_any s (i : Int) w hs (by omega)
  rw [Int.toNat_natCast] at h
  exact h
set_option maxRecDepth 10000 in
theorem added_any (s t : ByteArray) (n : Nat) (w : World) (hs : s.size = n) (ht : t.size = n) (hn : n ≤ 255) :
    Calls Tryz.prog 209 #[.string s, .string t] w fun e w' => e = .returned (.string (M.mk n fun j => (M.bz s j + M.bz t j) % 256)) ∧ Below w.heap.size w w' := by
  have hs1 : s.size ≤ n := by omega
  have hs2 : n ≤ s.size := by omega
  have HT := hide (show t.size ≤ maxLen by unfold maxLen; omega)
  clear hs ht
  go_enter Tryz.func209, Tryz.ntmps209
  go_wp2_with fail
  go_loopw [5, 6] (fun v i wr => ∃ (k : Nat) (o : ByteArray), k ≤ n ∧ i = .int .i64 k ∧ Hid (o = M.mk k fun j => (M.bz s j + M.bz t j) % 256) ∧ wr.ownsRow w.heap.size 5 1 v o.size (strCells o) ∧ Below w.heap.size w wr) (fun _ i _ => n - (intOf i).toNat)
  case atStart => exact ⟨0, ⟨#[]⟩, by omega, rfl, rfl, World.ownsRow_nil _ _ _ _, Below.refl _ _⟩
  case round =>
    obtain ⟨k, o, hk, rfl, ho, hown, hbel⟩ := hrel
    have hsz := hbel.size
    have HZ : Hid (o.size = k) := by rw [ho.out, M.mk_size]; rfl
    by_cases hlt : k < n
    · have HO := hide hown
      have HB := hide hbel
      have p0 : k < s.size := by omega
      have hi0 : (k : Int) < (s.size : Int) := by omega
      have HS : Hid (o ++ M.bytesOf [((s[k]'p0).toNat + M.bz t k) % 256] = M.mk (k + 1) fun j => (M.bz s j + M.bz t j) % 256) := by
        rw [M.mk_succ, ← ho.out, M.bz_at s k p0]; rfl
      have b0 : (s[k]'p0).toNat < 256 := UInt8.toNat_lt _
      have b1 := M.bz_lt t k
      have hwb0 : IntKind.i64.wrap ((s[k]'p0).toNat : Int) = ((s[k]'p0).toNat : Int) := IntWalk.i64_in _ ⟨by omega, by omega⟩
      have hwsum : IntKind.i64.wrap (((s[k]'p0).toNat : Int) + (M.bz t k : Int)) = ((s[k]'p0).toNat : Int) + (M.bz t k : Int) := IntWalk.i64_in _ ⟨by omega, by omega⟩
      clear hown hbel
      go_wp2_with fail
      go_region_held3 (fun _ => True) (first | trivial | (intros; trivial)) ((go_at_call 100; refine (wordByte_nat t k _ (unhide HT)).mono ?_; rintro e w' ⟨rfl, rfl⟩))
      all_goals
        generalize (s[k]'p0).toNat = x at *
        generalize M.bz t k = y at *
        clear hwsum hwb0
        have hmod : ((x : Int) + (y : Int)) % 256 = ((x + y) % 256 : Nat) := by omega
        have HM := hide hmod
        clear hmod
        go_wp2_with (at_builtin; (refine append_byte _ rfl (.tmp 22) (.tmp 26) rfl w.heap.size u5 o ((x + y) % 256) wr.heap.size (by omega) rfl rfl (by rw [← HM.out]; simp) (by first | exact ((unhide HO).alloc _).drew | exact (unhide HO).drew.alloc _) (by rw [HZ.out]; omega) (by simp; omega) ?_); intro v' w1 hown1 hbel1 hsz1)
        have HR : Hid (w1.ownsRow w.heap.size 5 1 v' (M.mk (k + 1) fun j => (M.bz s j + M.bz t j) % 256).size (strCells (M.mk (k + 1) fun j => (M.bz s j + M.bz t j) % 256))) := by rw [← HS.out]; exact hown1
        have HB1 := hide (hbel1 w (by first | exact ((unhide HB).alloc hsz _).drew | exact (unhide HB).drew.alloc hsz _))
        clear hown1 hbel1
        go_wp2
        go_roundw
        case rel => exact ⟨k + 1, _, by omega, by go_num, rfl, unhide HR, unhide HB1⟩
        case measure => simp [intOf]; omega
    · have hkn : k = n := by omega
      subst hkn
      have hr := row_text _ _ _ _ hown
      have HB := hide hbel
      clear hown hbel
      go_wp2
      go_ret
      exact ⟨ret_string ho.out, unhide HB⟩

theorem fits_base (what at_ count : Nat) (t b : ByteArray) (w : World) (hw : what = 0 ∨ what = 3) (ha : at_ < 256) (hc : count < 256) (_hb : b.size ≤ 2000000) :
    Calls Tryz.prog 207 #[.agg #[.int .i64 what, .int .i64 at_, .int .i64 count, .string t], .string b] w fun e w' => e = .returned (.bool (decide (at_ + count ≤ b.size))) ∧ Below w.heap.size w w' := by
  have HE : Hid (decide ((at_ : Int) + (count : Int) ≤ (b.size : Int)) = decide (at_ + count ≤ b.size)) := by
    show _ = _
    rw [decide_eq_decide]; omega
  rcases hw with rfl | rfl
  · go_enter Tryz.func207, Tryz.ntmps207
    go_wp2
    go_ret
    exact ⟨ret_bool HE.out, (Below.refl _ _).alloc (Nat.le_refl _) _⟩
  · go_enter Tryz.func207, Tryz.ntmps207
    go_wp2
    go_ret
    exact ⟨ret_bool HE.out, (Below.refl _ _).alloc (Nat.le_refl _) _⟩
theorem fits_own (what at_ count : Nat) (t b : ByteArray) (w : World) (hw : what = 1 ∨ what = 2) :
    Calls Tryz.prog 207 #[.agg #[.int .i64 what, .int .i64 at_, .int .i64 count, .string t], .string b] w fun e w' => e = .returned (.bool true) ∧ Below w.heap.size w w' := by
  rcases hw with rfl | rfl
  · go_enter Tryz.func207, Tryz.ntmps207
    go_wp2
    go_ret
    exact ⟨rfl, (Below.refl _ _).alloc (Nat.le_refl _) _⟩
  · go_enter Tryz.func207, Tryz.ntmps207
    go_wp2
    go_ret
    exact ⟨rfl, (Below.refl _ _).alloc (Nat.le_refl _) _⟩
end Go.Proofs.YtjfmiomopfjecabGreat

/- Pages of the flash: what is read, and what is written. -/
namespace Go.Proofs.YtjfmiomopfjecabGreat
open Go.RowKit Go.Lib

theorem wordByte_at (s : ByteArray) (k : Int) (i : Nat) (w : World) (hs : s.size ≤ maxLen) (hk : k = i) :
    Calls Tryz.prog 100 #[.string s, .int .i64 k] w fun e w' => e = .returned (.int .i64 (M.bz s i)) ∧ w = w' := by
  subst hk
  exact wordByte_nat s i w hs
theorem wordNumber_any (s : ByteArray) (k : Int) (i : Nat) (w : World) (hs : s.size ≤ maxLen) (hk : k = i) (hi : i ≤ 1000000) :
    Calls Tryz.prog 175 #[.string s, .int .i64 k] w fun e w' => e = .returned (.int .i64 (M.bz s i * 256 + M.bz s (i + 1) : Nat)) ∧ w = w' := by
  subst hk
  have HL := hide hs
  have b0 := M.bz_lt s i
  have b1 := M.bz_lt s (i + 1)
  go_enter Tryz.func175, Tryz.ntmps175
  go_wp2_with fail
  refine (wordByte_at s _ i _ (unhide HL) rfl).mono ?_
  rintro e w' ⟨rfl, rfl⟩
  generalize hx : M.bz s i = x at *
  have HX := hide hx
  clear hx
  go_wp2_with fail
  refine (wordByte_at s _ (i + 1) _ (unhide HL) (by omega)).mono ?_
  rintro e w' ⟨rfl, rfl⟩
  generalize hy : M.bz s (i + 1) = y at *
  have HY := hide hy
  clear hy
  go_wp2
  go_ret
  exact ⟨ret_int (by rw [HX.out, HY.out]; omega), rfl⟩
set_option maxRecDepth 10000 in
theorem padded_any (s : ByteArray) (f n : Nat) (k : Int) (w : World) (hs : s.size ≤ maxLen) (hf : f ≤ 100000) (hn : n ≤ 1000) (hk : k = f) :
    Calls Tryz.prog 104 #[.string s, .int .i64 k, .int .i64 n] w fun e w' => e = .returned (.string (M.mk n fun j => M.bz s (f + j))) ∧ Below w.heap.size w w' := by
  subst hk
  have HL := hide hs
  go_enter Tryz.func104, Tryz.ntmps104
  go_wp2_with fail
  go_loopw [7, 8] (fun v i wr => ∃ (k : Nat) (o : ByteArray), k ≤ n ∧ i = .int .i64 k ∧ Hid (o = M.mk k fun j => M.bz s (f + j)) ∧ wr.ownsRow w.heap.size 5 1 v o.size (strCells o) ∧ Below w.heap.size w wr) (fun _ i _ => n - (intOf i).toNat)
  case atStart => exact ⟨0, ⟨#[]⟩, by omega, rfl, rfl, World.ownsRow_nil _ _ _ _, Below.refl _ _⟩
  case round =>
    obtain ⟨k, o, hk, rfl, ho, hown, hbel⟩ := hrel
    have hsz := hbel.size
    have HZ : Hid (o.size = k) := by rw [ho.out, M.mk_size]; rfl
    by_cases hlt : k < n
    · have HO := hide hown
      have HB := hide hbel
      have HS : Hid (o ++ M.bytesOf [M.bz s (f + k)] = M.mk (k + 1) fun j => M.bz s (f + j)) := by
        rw [M.mk_succ, ← ho.out]; rfl
      have b1 := M.bz_lt s (f + k)
      clear hown hbel
      go_wp2_with fail
      refine (wordByte_at s _ (f + k) _ (unhide HL) (by omega)).mono ?_
      rintro e w' ⟨rfl, rfl⟩
      generalize M.bz s (f + k) = y at *
      go_wp2_with (at_builtin; (refine append_byte _ rfl (.tmp 14) (.tmp 21) rfl w.heap.size u7 o y wr.heap.size (by omega) rfl rfl (by simp) ((unhide HO).alloc _) (by rw [HZ.out]; omega) (by simp; omega) ?_); intro v' w1 hown1 hbel1 hsz1)
      have HR : Hid (w1.ownsRow w.heap.size 5 1 v' (M.mk (k + 1) fun j => M.bz s (f + j)).size (strCells (M.mk (k + 1) fun j => M.bz s (f + j)))) := by rw [← HS.out]; exact hown1
      have HB1 := hide (hbel1 w ((unhide HB).alloc hsz _))
      clear hown1 hbel1
      go_roundw
      case rel => exact ⟨k + 1, _, by omega, by go_num, rfl, unhide HR, unhide HB1⟩
      case measure => simp [intOf]; omega
    · have hkn : k = n := by omega
      subst hkn
      have hr := row_text _ _ _ _ hown
      have HB := hide hbel
      clear hown hbel
      go_wp2
      go_ret
      exact ⟨ret_string ho.out, unhide HB⟩
theorem needed_any (n : Nat) (w : World) (hn : n ≤ 1000000) :
    Calls Tryz.prog 73 #[.int .i64 n] w fun e w' => e = .returned (.int .i64 (M.chunksN n)) ∧ w = w' := by
  have HE := hide (show M.chunksN n = (n + 15) / 16 from rfl)
  go_enter Tryz.func73, Tryz.ntmps73
  go_wp2
  go_ret
  exact ⟨ret_int (by rw [HE.out]; omega), rfl⟩

/- what is to be written, as it lies in memory -/
abbrev GW := Nat × ByteArray
def gwCells (l : List GW) : List Value := l.flatMap fun a => [.int .i64 (a.1 : Int), .string a.2]
theorem gwCells_snoc (l : List GW) (a : GW) : gwCells (l ++ [a]) = gwCells l ++ [.int .i64 (a.1 : Int), .string a.2] := by simp [gwCells]
theorem gwCells_length (l : List GW) : (gwCells l).length = 2 * l.length := by
  induction l with
  | nil => rfl
  | cons a l ih => simp [gwCells] at ih ⊢; omega
theorem gwCells_at {l : List GW} {i : Nat} (h : i < l.length) : (gwCells l)[2 * i]? = some (.int .i64 ((l[i]).1 : Int)) ∧ (gwCells l)[2 * i + 1]? = some (.string (l[i]).2) := by
  induction l generalizing i with
  | nil => simp at h
  | cons a l ih =>
    have e : gwCells (a :: l) = .int .i64 (a.1 : Int) :: .string a.2 :: gwCells l := by simp [gwCells]
    rw [e]
    cases i with
    | zero => simp
    | succ i =>
      have := ih (i := i) (by simpa using h)
      rw [show 2 * (i + 1) = 2 * i + 1 + 1 from by omega]
      simpa using this
def gwOf (a : GW) : M.Wr := (a.1, M.bz a.2)
theorem infoW : (Tryz.prog.info? 136).map (fun i => (i.zero, i.size, i.bytes)) = some (some (.agg #[.int .i64 0, .string ⟨#[]⟩]), 2, 24) := by kernel_rfl
theorem append_write {ops : Array Oper} {rest : List Oper} {o : Oper} {a : Act} {Q : Exit → Act → World → Prop} (w : World) (hgd : o.guard = none) (s x : Operand)
    (ho : o.op = .call { callee := .builtin .append, args := #[s, x], argTypes := #[127, 127] })
    (base : Nat) (v : Value) (l : List GW) (p : Int) (y : GW) (hs : a.eval s = v) (hx : a.eval x = .slice (some ⟨w.heap.size, 0, none⟩) 1 1) (hp : p = y.1)
    (hown : w.ownsRow base 136 2 v l.length (gwCells l)) (hn : l.length + 1 ≤ 1000000) (hbase : base ≤ w.heap.size)
    (h : ∀ v' w', w'.ownsRow base 136 2 v' (l ++ [y]).length (gwCells (l ++ [y])) → (∀ w0, Below base w0 w → Below base w0 w') → w.heap.size ≤ w'.heap.size → wpList Tryz.prog ops Q rest (a.put o.dst v') w') :
    wpList Tryz.prog ops Q (o :: rest) a (w.alloc (.cells #[.int .i64 p, .string y.2] 136)) := by
  subst hp
  obtain ⟨i0, hi, hz0, hz1, hz2⟩ := info_parts infoW
  refine append_one w hgd s x 127 ho base 136 i0 _ 2 24 Tryz.underlying127 hi hz0 hz1 hz2 rfl (by decide) v l.length (gwCells l) hs hown [.int .i64 (y.1 : Int), .string y.2] rfl hx ?_ hn (by omega) hbase ?_
  · intro u hu
    simp only [List.mem_cons, List.not_mem_nil, or_false] at hu
    rcases hu with rfl | rfl <;> rfl
  · intro v' w' a b c
    refine h v' w' ?_ b c
    rw [List.length_append, gwCells_snoc]
    exact a
/-- a text laid into n pages -/
def spreadG (first n : Nat) (s : ByteArray) : List GW := (List.range n).map fun i => (first + i, M.mk 16 fun j => M.bz s (16 * i + j))
theorem spreadG_succ (first n : Nat) (s : ByteArray) : spreadG first (n + 1) s = spreadG first n s ++ [(first + n, M.mk 16 fun j => M.bz s (16 * n + j))] := by
  unfold spreadG; rw [List.range_succ, List.map_append]; rfl
theorem spreadG_length (first n : Nat) (s : ByteArray) : (spreadG first n s).length = n := by simp [spreadG]
set_option maxRecDepth 10000 in
theorem spread_any (first n : Nat) (s : ByteArray) (w : World) (hs : s.size ≤ maxLen) (hf : first ≤ 1000) (hn : n ≤ 1000) :
    Calls Tryz.prog 71 #[.int .i64 first, .int .i64 n, .string s] w fun e w' => ∃ v, e = .returned v ∧ w'.ownsRow w.heap.size 136 2 v n (gwCells (spreadG first n s)) ∧ Below w.heap.size w w' := by
  have HL := hide hs
  go_enter Tryz.func71, Tryz.ntmps71
  go_wp2_with fail
  go_loopw [7, 8] (fun v i wr => ∃ k : Nat, k ≤ n ∧ i = .int .i64 k ∧ wr.ownsRow w.heap.size 136 2 v (spreadG first k s).length (gwCells (spreadG first k s)) ∧ Below w.heap.size w wr) (fun _ i _ => n - (intOf i).toNat)
  case atStart => exact ⟨0, by omega, rfl, World.ownsRow_nil _ _ _ _, Below.refl _ _⟩
  case round =>
    obtain ⟨k, hk, rfl, hown, hbel⟩ := hrel
    have hsz := hbel.size
    have HN := hide (spreadG_length first k s)
    by_cases hlt : k < n
    · have HO := hide hown
      have HB := hide hbel
      have HS := hide (spreadG_succ first k s)
      clear hown hbel
      go_wp2_with fail
      refine (padded_any s (16 * k) 16 _ _ (unhide HL) (by omega) (by omega) (by omega)).mono ?_
      rintro e w1 ⟨rfl, hb1⟩
      generalize hy : (M.mk 16 fun j => M.bz s (16 * k + j)) = y at *
      have HY := hide hy
      have hsz1 := hb1.size
      have HO1 := hide (ownsRow_below (unhide HO) hb1)
      have HB1 := hide ((unhide HB).trans (hb1.mono hsz))
      clear hy hb1
      go_wp2_with (at_builtin; (refine append_write _ rfl (.tmp 19) (.tmp 25) rfl w.heap.size u7 (spreadG first k s) _ (first + k, y) rfl rfl (by omega) (unhide HO1) (by rw [HN.out]; omega) (by omega) ?_); intro v' w2 hown2 hbel2 hsz2)
      have HR : Hid (w2.ownsRow w.heap.size 136 2 v' (spreadG first (k + 1) s).length (gwCells (spreadG first (k + 1) s))) := by rw [HS.out]; exact hown2
      have HB2 := hide (hbel2 w (unhide HB1))
      clear hown2 hbel2
      go_roundw
      case rel => exact ⟨k + 1, by omega, by go_num, unhide HR, unhide HB2⟩
      case measure => simp [intOf]; omega
    · have hkn : k = n := by omega
      subst hkn
      have HO : Hid (wr.ownsRow w.heap.size 136 2 u7 k (gwCells (spreadG first k s))) := by
        have := hown; rw [HN.out] at this; exact this
      have HB := hide hbel
      clear hown hbel
      go_wp2
      go_ret
      exact ⟨_, rfl, unhide HO, unhide HB⟩
end Go.Proofs.YtjfmiomopfjecabGreat

/- A step of a patch: what it gives, and how it is read. -/
namespace Go.Proofs.YtjfmiomopfjecabGreat
open Go.RowKit Go.Lib

def opHead (p : ByteArray) (i : Nat) : Nat := if M.bz p i = 0 then 3 else if M.bz p i = 1 then 2 else if M.bz p i = 2 then 2 else 3
def opAt (p : ByteArray) (i : Nat) : Nat := if M.bz p i = 0 then M.bz p (i + 1) else if M.bz p i = 1 then 0 else if M.bz p i = 2 then 0 else M.bz p (i + 1)
def opOwn (p : ByteArray) (i : Nat) : ByteArray := M.mk (M.opLen p i - opHead p i) fun j => M.bz p (i + opHead p i + j)
def stepV (p : ByteArray) (i : Nat) : Value := .agg #[.int .i64 (M.bz p i), .int .i64 (opAt p i), .int .i64 (M.opCount p i), .string (opOwn p i)]
def stepNo : Value := .agg #[.int .i64 0, .int .i64 0, .int .i64 0, .string ⟨#[]⟩]
theorem ret_step {a b c d : Int} {a' b' c' d' : Int} {t t' : ByteArray} (h1 : a = a') (h2 : b = b') (h3 : c = c') (h4 : t = t') (h5 : d = d') :
    Ending.returned (.tuple #[.agg #[.int .i64 a, .int .i64 b, .int .i64 c, .string t], .int .i64 d, .bool true]) = .returned (.tuple #[.agg #[.int .i64 a', .int .i64 b', .int .i64 c', .string t'], .int .i64 d', .bool true]) := by rw [h1, h2, h3, h4, h5]

/-- what a step that is there and fits gives -/
theorem gives_any (b p : ByteArray) (i : Nat) (w : World) (hb : b.size ≤ 2000000) (hok : M.opOk b p i = true) :
    Calls Tryz.prog 206 #[stepV p i, .string b] w fun e w' => e = .returned (.string (M.opGives b p i)) ∧ Below w.heap.size w w' := by
  have h3 := M.opOk_what hok
  have b1 := M.bz_lt p (i + 1)
  have b2 := M.bz_lt p (i + 2)
  have hcase : M.bz p i = 0 ∨ M.bz p i = 1 ∨ M.bz p i = 2 ∨ M.bz p i = 3 := by omega
  unfold stepV
  rcases hcase with h0 | h0 | h0 | h0
  · have hf : M.bz p (i + 1) + M.bz p (i + 2) ≤ b.size := by
      simp only [M.opOk, M.opFits, h0, Bool.and_eq_true, decide_true, Bool.true_or, Bool.not_true, Bool.false_or, decide_eq_true_eq] at hok
      exact hok.2
    have e1 : opAt p i = M.bz p (i + 1) := by simp [opAt, h0]
    have e2 : M.opCount p i = M.bz p (i + 2) := by simp [M.opCount, h0]
    have HG : Hid ((M.mk (M.bz p (i + 2)) fun j => M.bz b (M.bz p (i + 1) + j)) = M.opGives b p i) := by
      show _ = M.mk (M.opCount p i) (M.opByte b p i)
      rw [e2]
      exact M.mk_congr fun j _ => by simp [M.opByte, h0]
    rw [e1, e2, h0]
    clear hok h0 e1 e2
    generalize M.opGives b p i = G at *
    generalize opOwn p i = t at *
    generalize M.bz p (i + 1) = x at *
    generalize M.bz p (i + 2) = y at *
    go_enter Tryz.func206, Tryz.ntmps206
    go_wp2_with fail
    refine (part_yes b x y _ hb hf).mono ?_
    rintro e w' ⟨rfl, rfl⟩
    rw [HG.out]
    go_wp2
    go_ret
    exact ⟨rfl, (Below.refl _ _).alloc (Nat.le_refl _) _⟩
  · have e2 : M.opCount p i = M.bz p (i + 1) := by simp [M.opCount, h0]
    have e3 : M.opLen p i - opHead p i = M.bz p (i + 1) := by simp [M.opLen, opHead, h0]
    have e4 : opHead p i = 2 := by simp [opHead, h0]
    have HG : Hid (opOwn p i = M.opGives b p i) := by
      show M.mk _ _ = M.mk (M.opCount p i) (M.opByte b p i)
      rw [e2, e3]
      exact M.mk_congr fun j _ => by simp [M.opByte, h0, e4]
    rw [h0]
    clear hok h0 e2 e3 e4
    generalize M.opGives b p i = G at *
    generalize opOwn p i = t at *
    generalize opAt p i = x at *
    generalize M.opCount p i = y at *
    go_enter Tryz.func206, Tryz.ntmps206
    go_wp2
    go_ret
    exact ⟨ret_string HG.out, (Below.refl _ _).alloc (Nat.le_refl _) _⟩
  · have e2 : M.opCount p i = M.bz p (i + 1) := by simp [M.opCount, h0]
    have e3 : M.opLen p i - opHead p i = 1 := by simp [M.opLen, opHead, h0]
    have e4 : opHead p i = 2 := by simp [opHead, h0]
    have HG : Hid ((M.mk (M.bz p (i + 1)) fun _ => M.bz p (i + 2)) = M.opGives b p i) := by
      show _ = M.mk (M.opCount p i) (M.opByte b p i)
      rw [e2]
      exact M.mk_congr fun j _ => by simp [M.opByte, h0]
    have e5 : opOwn p i = M.bytesOf [M.bz p (i + 2)] := by
      unfold opOwn
      rw [e3, e4]; rfl
    rw [e2, e5, h0]
    clear hok h0 e2 e3 e4 e5
    generalize M.opGives b p i = G at *
    generalize opAt p i = u at *
    generalize M.bz p (i + 1) = x at *
    generalize M.bz p (i + 2) = y at *
    go_enter Tryz.func206, Tryz.ntmps206
    go_wp2_with fail
    refine (repeated_any y x _ (by omega)).mono ?_
    rintro e w' ⟨rfl, hb1⟩
    rw [HG.out]
    have HB : Hid (Below w.heap.size w w') := ((Below.refl _ _).alloc (Nat.le_refl _) _).trans (hb1.mono (by simp))
    clear hb1
    go_wp2
    go_ret
    exact ⟨rfl, unhide HB⟩
  · have hf : M.bz p (i + 1) + M.bz p (i + 2) ≤ b.size := by
      simp only [M.opOk, M.opFits, h0, Bool.and_eq_true, decide_true, Bool.or_true, Bool.not_true, Bool.false_or, decide_eq_true_eq] at hok
      exact hok.2
    have e1 : opAt p i = M.bz p (i + 1) := by simp [opAt, h0]
    have e2 : M.opCount p i = M.bz p (i + 2) := by simp [M.opCount, h0]
    have e3 : M.opLen p i - opHead p i = M.bz p (i + 2) := by simp [M.opLen, opHead, h0]
    have e4 : opHead p i = 3 := by simp [opHead, h0]
    have e5 : opOwn p i = M.mk (M.bz p (i + 2)) fun j => M.bz p (i + 3 + j) := by
      unfold opOwn
      rw [e3, e4]
    have HG : Hid ((M.mk (M.bz p (i + 2)) fun j => (M.bz (M.mk (M.bz p (i + 2)) fun j => M.bz b (M.bz p (i + 1) + j)) j + M.bz (M.mk (M.bz p (i + 2)) fun j => M.bz p (i + 3 + j)) j) % 256) = M.opGives b p i) := by
      show _ = M.mk (M.opCount p i) (M.opByte b p i)
      rw [e2]
      refine M.mk_congr fun j hj => ?_
      rw [M.bz_mk (fun _ _ => M.bz_lt _ _) hj, M.bz_mk (fun _ _ => M.bz_lt _ _) hj]
      simp [M.opByte, h0]
    have z2 := M.mk_size (M.bz p (i + 2)) fun j => M.bz p (i + 3 + j)
    have z1 := M.mk_size (M.bz p (i + 2)) fun j => M.bz b (M.bz p (i + 1) + j)
    rw [e1, e2, e5, h0]
    clear hok h0 e1 e2 e3 e4 e5
    generalize M.opGives b p i = G at *
    generalize (M.mk (M.bz p (i + 2)) fun j => M.bz p (i + 3 + j)) = t at *
    generalize M.bz p (i + 1) = x at *
    generalize M.bz p (i + 2) = y at *
    have Z1 := hide z1
    have Z2 := hide z2
    clear z1 z2
    go_enter Tryz.func206, Tryz.ntmps206
    go_wp2_with fail
    refine (part_yes b x y _ hb hf).mono ?_
    rintro e w' ⟨rfl, rfl⟩
    generalize (M.mk y fun j => M.bz b (x + j)) = r at *
    go_wp2_with fail
    refine (added_any r t y _ (unhide Z1) (unhide Z2) (by omega)).mono ?_
    rintro e w' ⟨rfl, hb1⟩
    rw [HG.out]
    have HB : Hid (Below w.heap.size w w') := ((Below.refl _ _).alloc (Nat.le_refl _) _).trans (hb1.mono (by simp))
    clear hb1
    go_wp2
    go_ret
    exact ⟨rfl, unhide HB⟩
end Go.Proofs.YtjfmiomopfjecabGreat

/- A step that is read. -/
namespace Go.Proofs.YtjfmiomopfjecabGreat
open Go.RowKit Go.Lib

theorem there_iff (p : ByteArray) (i : Nat) (h : M.bz p i ≤ 3) : M.opThere p i = decide (i + M.opLen p i ≤ p.size) := by
  unfold M.opThere
  rw [decide_eq_true h, Bool.true_and]
theorem part_yes_at (s : ByteArray) (k c : Int) (a n : Nat) (w : World) (hs : s.size ≤ 2000000) (h : a + n ≤ s.size) (hk : k = a) (hc : c = n) :
    Calls Tryz.prog 96 #[.string s, .int .i64 k, .int .i64 c] w fun e w' => e = .returned (.tuple #[.string (M.mk n fun j => M.bz s (a + j)), .bool true]) ∧ w = w' := by
  subst hk hc
  exact part_yes s a n w hs h
theorem part_no_at (s : ByteArray) (k c : Int) (a n : Nat) (w : World) (hs : s.size ≤ 2000000) (ha : a ≤ 4000000) (hn : n ≤ 4000000) (h : s.size < a + n) (hk : k = a) (hc : c = n) :
    Calls Tryz.prog 96 #[.string s, .int .i64 k, .int .i64 c] w fun e w' => e = .returned (.tuple #[.string ⟨#[]⟩, .bool false]) ∧ w = w' := by
  subst hk hc
  exact part_no s a n w hs ha hn h
theorem two_new (w : World) (a b : Obj) : Below w.heap.size w ((w.alloc a).alloc b) := ((Below.refl _ _).alloc (Nat.le_refl _) _).alloc (by simp) _

def Reads (p : ByteArray) (i : Nat) (w : World) (e : Ending) (w' : World) : Prop :=
  (M.opThere p i = true → e = .returned (.tuple #[stepV p i, .int .i64 (i + M.opLen p i : Nat), .bool true])) ∧
  (M.opThere p i = false → e = .returned (.tuple #[stepNo, .int .i64 0, .bool false])) ∧ Below w.heap.size w w'
theorem reads_yes {p : ByteArray} {i : Nat} {w w' : World} {v : Value} {k : Int} (h : M.opThere p i = true) (hv : stepV p i = v) (hk : k = (i + M.opLen p i : Nat)) (hb : Below w.heap.size w w') : Reads p i w (.returned (.tuple #[v, .int .i64 k, .bool true])) w' :=
  ⟨fun _ => by rw [hv, hk], ⟨fun h' => absurd (h.symm.trans h') (by decide), hb⟩⟩
theorem reads_no {p : ByteArray} {i : Nat} {w w' : World} (h : M.opThere p i = false) (hb : Below w.heap.size w w') : Reads p i w (.returned (.tuple #[stepNo, .int .i64 0, .bool false])) w' :=
  ⟨fun h' => absurd (h.symm.trans h') (by decide), ⟨fun _ => rfl, hb⟩⟩
theorem read_zero (p : ByteArray) (i : Nat) (w : World) (hp : p.size ≤ 2000000) (hi : i < p.size) (h0 : M.bz p i = 0) :
    Calls Tryz.prog 205 #[.string p, .int .i64 i] w fun e w' => Reads p i w e w' := by
  have hpm : p.size ≤ maxLen := by unfold maxLen; omega
  have b1 := M.bz_lt p (i + 1)
  have b2 := M.bz_lt p (i + 2)
  have hl : M.opLen p i = 3 := by simp [M.opLen, h0]
  have HT := hide (there_iff p i (by omega))
  have HV : Hid (stepV p i = .agg #[.int .i64 (0 : Nat), .int .i64 (M.bz p (i + 1) : Nat), .int .i64 (M.bz p (i + 2) : Nat), .string (M.mk 0 fun j => M.bz p (i + 3 + j))]) := by
    show stepV p i = _
    unfold stepV opOwn
    simp [h0, hl, opAt, M.opCount, opHead]
  have HL := hide hl
  rw [hl] at HT
  have hl' : i + M.opLen p i = i + (3) := by rw [hl]
  clear hl hl'
  go_enter Tryz.func205, Tryz.ntmps205
  go_wp2_with fail
  refine (wordByte_nat p i _ hpm).mono ?_
  rintro e w' ⟨rfl, rfl⟩
  rw [h0]
  clear h0
  go_wp2_with fail
  refine (wordByte_at p _ (i + 1) _ hpm (by omega)).mono ?_
  rintro e w' ⟨rfl, rfl⟩
  generalize M.bz p (i + 1) = x at *
  go_wp2_with fail
  refine (wordByte_at p _ (i + 2) _ hpm (by omega)).mono ?_
  rintro e w' ⟨rfl, rfl⟩
  generalize M.bz p (i + 2) = y at *
  by_cases hq : i + 3 + 0 ≤ p.size
  · have HY : Hid (M.opThere p i = true) := by rw [HT.out]; exact decide_eq_true (by omega)
    go_wp2_with fail
    refine (part_yes_at p _ _ (i + 3) 0 _ hp hq (by omega) (by omega)).mono ?_
    rintro e w' ⟨rfl, rfl⟩
    generalize (M.mk 0 fun j => M.bz p (i + 3 + j)) = t at *
    go_wp2
    refine bodyPost_ret (v := .tuple #[.agg #[.int .i64 (0 : Nat), .int .i64 (x : Nat), .int .i64 y, .string t], .int .i64 _, .bool true]) (by simp [results, Tryz.results205, go_sem]; rfl) rfl ?_
    exact reads_yes (unhide HY) HV.out (by rw [HL.out]; omega) (two_new _ _ _)
  · have HY : Hid (M.opThere p i = false) := by rw [HT.out]; exact decide_eq_false (by omega)
    go_wp2_with fail
    refine (part_no_at p _ _ (i + 3) 0 _ hp (by omega) (by omega) (by omega) (by omega) (by omega)).mono ?_
    rintro e w' ⟨rfl, rfl⟩
    go_wp2
    refine bodyPost_ret (v := .tuple #[stepNo, .int .i64 0, .bool false]) (by simp [results, Tryz.results205, go_sem, stepNo]) rfl ?_
    exact reads_no (unhide HY) (two_new _ _ _)
theorem read_one (p : ByteArray) (i : Nat) (w : World) (hp : p.size ≤ 2000000) (hi : i < p.size) (h0 : M.bz p i = 1) :
    Calls Tryz.prog 205 #[.string p, .int .i64 i] w fun e w' => Reads p i w e w' := by
  have hpm : p.size ≤ maxLen := by unfold maxLen; omega
  have b1 := M.bz_lt p (i + 1)
  have b2 := M.bz_lt p (i + 2)
  have hl : M.opLen p i = 2 + M.bz p (i + 1) := by simp [M.opLen, h0]
  have HT := hide (there_iff p i (by omega))
  have HV : Hid (stepV p i = .agg #[.int .i64 (1 : Nat), .int .i64 (0 : Nat), .int .i64 (M.bz p (i + 1) : Nat), .string (M.mk (M.bz p (i + 1)) fun j => M.bz p (i + 2 + j))]) := by
    show stepV p i = _
    unfold stepV opOwn
    simp [h0, hl, opAt, M.opCount, opHead]
  have HL := hide hl
  rw [hl] at HT
  have hl' : i + M.opLen p i = i + (2 + M.bz p (i + 1)) := by rw [hl]
  clear hl hl'
  go_enter Tryz.func205, Tryz.ntmps205
  go_wp2_with fail
  refine (wordByte_nat p i _ hpm).mono ?_
  rintro e w' ⟨rfl, rfl⟩
  rw [h0]
  clear h0
  go_wp2_with fail
  refine (wordByte_at p _ (i + 1) _ hpm (by omega)).mono ?_
  rintro e w' ⟨rfl, rfl⟩
  generalize M.bz p (i + 1) = x at *
  by_cases hq : i + 2 + x ≤ p.size
  · have HY : Hid (M.opThere p i = true) := by rw [HT.out]; exact decide_eq_true (by omega)
    go_wp2_with fail
    refine (part_yes_at p _ _ (i + 2) x _ hp hq (by omega) (by omega)).mono ?_
    rintro e w' ⟨rfl, rfl⟩
    generalize (M.mk x fun j => M.bz p (i + 2 + j)) = t at *
    go_wp2
    refine bodyPost_ret (v := .tuple #[.agg #[.int .i64 (1 : Nat), .int .i64 (0 : Nat), .int .i64 x, .string t], .int .i64 _, .bool true]) (by simp [results, Tryz.results205, go_sem]; rfl) rfl ?_
    exact reads_yes (unhide HY) HV.out (by rw [HL.out]; omega) (two_new _ _ _)
  · have HY : Hid (M.opThere p i = false) := by rw [HT.out]; exact decide_eq_false (by omega)
    go_wp2_with fail
    refine (part_no_at p _ _ (i + 2) x _ hp (by omega) (by omega) (by omega) (by omega) (by omega)).mono ?_
    rintro e w' ⟨rfl, rfl⟩
    go_wp2
    refine bodyPost_ret (v := .tuple #[stepNo, .int .i64 0, .bool false]) (by simp [results, Tryz.results205, go_sem, stepNo]) rfl ?_
    exact reads_no (unhide HY) (two_new _ _ _)
theorem read_two (p : ByteArray) (i : Nat) (w : World) (hp : p.size ≤ 2000000) (hi : i < p.size) (h0 : M.bz p i = 2) :
    Calls Tryz.prog 205 #[.string p, .int .i64 i] w fun e w' => Reads p i w e w' := by
  have hpm : p.size ≤ maxLen := by unfold maxLen; omega
  have b1 := M.bz_lt p (i + 1)
  have b2 := M.bz_lt p (i + 2)
  have hl : M.opLen p i = 3 := by simp [M.opLen, h0]
  have HT := hide (there_iff p i (by omega))
  have HV : Hid (stepV p i = .agg #[.int .i64 (2 : Nat), .int .i64 (0 : Nat), .int .i64 (M.bz p (i + 1) : Nat), .string (M.mk 1 fun j => M.bz p (i + 2 + j))]) := by
    show stepV p i = _
    unfold stepV opOwn
    simp [h0, hl, opAt, M.opCount, opHead]
  have HL := hide hl
  rw [hl] at HT
  have hl' : i + M.opLen p i = i + (3) := by rw [hl]
  clear hl hl'
  go_enter Tryz.func205, Tryz.ntmps205
  go_wp2_with fail
  refine (wordByte_nat p i _ hpm).mono ?_
  rintro e w' ⟨rfl, rfl⟩
  rw [h0]
  clear h0
  go_wp2_with fail
  refine (wordByte_at p _ (i + 1) _ hpm (by omega)).mono ?_
  rintro e w' ⟨rfl, rfl⟩
  generalize M.bz p (i + 1) = x at *
  by_cases hq : i + 2 + 1 ≤ p.size
  · have HY : Hid (M.opThere p i = true) := by rw [HT.out]; exact decide_eq_true (by omega)
    go_wp2_with fail
    refine (part_yes_at p _ _ (i + 2) 1 _ hp hq (by omega) (by omega)).mono ?_
    rintro e w' ⟨rfl, rfl⟩
    generalize (M.mk 1 fun j => M.bz p (i + 2 + j)) = t at *
    go_wp2
    refine bodyPost_ret (v := .tuple #[.agg #[.int .i64 (2 : Nat), .int .i64 (0 : Nat), .int .i64 x, .string t], .int .i64 _, .bool true]) (by simp [results, Tryz.results205, go_sem]; rfl) rfl ?_
    exact reads_yes (unhide HY) HV.out (by rw [HL.out]; omega) (two_new _ _ _)
  · have HY : Hid (M.opThere p i = false) := by rw [HT.out]; exact decide_eq_false (by omega)
    go_wp2_with fail
    refine (part_no_at p _ _ (i + 2) 1 _ hp (by omega) (by omega) (by omega) (by omega) (by omega)).mono ?_
    rintro e w' ⟨rfl, rfl⟩
    go_wp2
    refine bodyPost_ret (v := .tuple #[stepNo, .int .i64 0, .bool false]) (by simp [results, Tryz.results205, go_sem, stepNo]) rfl ?_
    exact reads_no (unhide HY) (two_new _ _ _)
theorem read_three (p : ByteArray) (i : Nat) (w : World) (hp : p.size ≤ 2000000) (hi : i < p.size) (h0 : M.bz p i = 3) :
    Calls Tryz.prog 205 #[.string p, .int .i64 i] w fun e w' => Reads p i w e w' := by
  have hpm : p.size ≤ maxLen := by unfold maxLen; omega
  have b1 := M.bz_lt p (i + 1)
  have b2 := M.bz_lt p (i + 2)
  have hl : M.opLen p i = 3 + M.bz p (i + 2) := by simp [M.opLen, h0]
  have HT := hide (there_iff p i (by omega))
  have HV : Hid (stepV p i = .agg #[.int .i64 (3 : Nat), .int .i64 (M.bz p (i + 1) : Nat), .int .i64 (M.bz p (i + 2) : Nat), .string (M.mk (M.bz p (i + 2)) fun j => M.bz p (i + 3 + j))]) := by
    show stepV p i = _
    unfold stepV opOwn
    simp [h0, hl, opAt, M.opCount, opHead]
  have HL := hide hl
  rw [hl] at HT
  have hl' : i + M.opLen p i = i + (3 + M.bz p (i + 2)) := by rw [hl]
  clear hl hl'
  go_enter Tryz.func205, Tryz.ntmps205
  go_wp2_with fail
  refine (wordByte_nat p i _ hpm).mono ?_
  rintro e w' ⟨rfl, rfl⟩
  rw [h0]
  clear h0
  go_wp2_with fail
  refine (wordByte_at p _ (i + 1) _ hpm (by omega)).mono ?_
  rintro e w' ⟨rfl, rfl⟩
  generalize M.bz p (i + 1) = x at *
  go_wp2_with fail
  refine (wordByte_at p _ (i + 2) _ hpm (by omega)).mono ?_
  rintro e w' ⟨rfl, rfl⟩
  generalize M.bz p (i + 2) = y at *
  by_cases hq : i + 3 + y ≤ p.size
  · have HY : Hid (M.opThere p i = true) := by rw [HT.out]; exact decide_eq_true (by omega)
    go_wp2_with fail
    refine (part_yes_at p _ _ (i + 3) y _ hp hq (by omega) (by omega)).mono ?_
    rintro e w' ⟨rfl, rfl⟩
    generalize (M.mk y fun j => M.bz p (i + 3 + j)) = t at *
    go_wp2
    refine bodyPost_ret (v := .tuple #[.agg #[.int .i64 (3 : Nat), .int .i64 (x : Nat), .int .i64 y, .string t], .int .i64 _, .bool true]) (by simp [results, Tryz.results205, go_sem]; rfl) rfl ?_
    exact reads_yes (unhide HY) HV.out (by rw [HL.out]; omega) (two_new _ _ _)
  · have HY : Hid (M.opThere p i = false) := by rw [HT.out]; exact decide_eq_false (by omega)
    go_wp2_with fail
    refine (part_no_at p _ _ (i + 3) y _ hp (by omega) (by omega) (by omega) (by omega) (by omega)).mono ?_
    rintro e w' ⟨rfl, rfl⟩
    go_wp2
    refine bodyPost_ret (v := .tuple #[stepNo, .int .i64 0, .bool false]) (by simp [results, Tryz.results205, go_sem, stepNo]) rfl ?_
    exact reads_no (unhide HY) (two_new _ _ _)
theorem read_more (p : ByteArray) (i : Nat) (w : World) (hp : p.size ≤ 2000000) (hi : i < p.size) (h0 : 3 < M.bz p i) :
    Calls Tryz.prog 205 #[.string p, .int .i64 i] w fun e w' => Reads p i w e w' := by
  have hpm : p.size ≤ maxLen := by unfold maxLen; omega
  have b0 := M.bz_lt p i
  have b1 := M.bz_lt p (i + 1)
  have HY : Hid (M.opThere p i = false) := by
    show M.opThere p i = false
    unfold M.opThere
    rw [decide_eq_false (by omega), Bool.false_and]
  go_enter Tryz.func205, Tryz.ntmps205
  go_wp2_with fail
  refine (wordByte_nat p i _ hpm).mono ?_
  rintro e w' ⟨rfl, rfl⟩
  generalize M.bz p i = z at *
  have k0 : ((z : Int) == 0) = false := by rw [beq_eq_false_iff_ne]; omega
  have k1 : ((z : Int) == 1) = false := by rw [beq_eq_false_iff_ne]; omega
  have k2 : ((z : Int) == 2) = false := by rw [beq_eq_false_iff_ne]; omega
  have k3 : ((z : Int) == 3) = false := by rw [beq_eq_false_iff_ne]; omega
  go_wp2_with fail
  refine (wordByte_at p _ (i + 1) _ hpm (by omega)).mono ?_
  rintro e w' ⟨rfl, rfl⟩
  generalize M.bz p (i + 1) = x at *
  go_wp2
  refine bodyPost_ret (v := .tuple #[stepNo, .int .i64 0, .bool false]) (by simp [results, Tryz.results205, go_sem, stepNo]) rfl ?_
  exact reads_no (unhide HY) (two_new _ _ _)
theorem read_any (p : ByteArray) (i : Nat) (w : World) (hp : p.size ≤ 2000000) (hi : i < p.size) :
    Calls Tryz.prog 205 #[.string p, .int .i64 i] w fun e w' => Reads p i w e w' := by
  by_cases h0 : M.bz p i = 0
  · exact read_zero p i w hp hi h0
  by_cases h1 : M.bz p i = 1
  · exact read_one p i w hp hi h1
  by_cases h2 : M.bz p i = 2
  · exact read_two p i w hp hi h2
  by_cases h3 : M.bz p i = 3
  · exact read_three p i w hp hi h3
  exact read_more p i w hp hi (by omega)
end Go.Proofs.YtjfmiomopfjecabGreat

/- Pages that are read and written. -/
namespace Go.Proofs.YtjfmiomopfjecabGreat
open Go.RowKit Go.Lib

theorem mk_part (n a m : Nat) (F : Nat → Nat) (h : a + m ≤ n) (hF : ∀ j, F j < 256) : (M.mk m fun j => M.bz (M.mk n F) (a + j)) = M.mk m fun j => F (a + j) :=
  M.mk_congr fun j hj => M.bz_mk (fun _ _ => hF _) (by omega)
section
variable {w : World} {b : Nat} {t : TypeId} {key : ByteArray} {F : Nat → Nat} {on : Bool} {wait next age : Nat}
set_option maxRecDepth 100000 in
theorem flashText_in (h : DevAt w b t key F on wait next age) (hF : ∀ j, F j < 256) (p n : Nat) (k c : Int) (hp : p < 23) (hn : 16 * p + n ≤ 368) (hk : k = p) (hc : c = n) :
    Calls Tryz.prog 112 #[.pointer (some ⟨b, 1, none⟩), .int .i64 k, .int .i64 c] w fun e w' => e = .returned (.string (M.mk n fun j => F (16 * p + j))) ∧ w = w' := by
  subst hk hc
  have HC := flash_cells h
  have HE := hide (mk_part 368 (16 * p) n F hn hF)
  have HZ := hide (M.mk_size 368 F)
  generalize M.mk 368 F = s at *
  go_enter Tryz.func112, Tryz.ntmps112
  go_wp2_with fail
  refine (part_yes_at s _ _ (16 * p) n _ (by rw [HZ.out]; omega) (by rw [HZ.out]; omega) (by omega) rfl).mono ?_
  rintro e w' ⟨rfl, rfl⟩
  rw [HE.out]
  generalize hy : (M.mk n fun j => F (16 * p + j)) = y at *
  have HY := hide hy
  clear hy
  go_wp2
  go_ret
  exact ⟨ret_string HY.out.symm, rfl⟩
theorem flashText_out (w : World) (b : Nat) (k c : Int) (hk : k < 0 ∨ 23 ≤ k) :
    Calls Tryz.prog 112 #[.pointer (some ⟨b, 1, none⟩), .int .i64 k, .int .i64 c] w fun e w' => e = .returned (.string ⟨#[]⟩) ∧ w = w' := by
  rcases hk with h | h
  · go_enter Tryz.func112, Tryz.ntmps112
    go_wp2
    go_ret
    exact ⟨rfl, rfl⟩
  · have h0 : ¬ k < 0 := by omega
    go_enter Tryz.func112, Tryz.ntmps112
    go_wp2
    go_ret
    exact ⟨rfl, rfl⟩
/-- a page's text; none if there is no such page -/
def pageT (F : Nat → Nat) (i : Int) : ByteArray := if 0 ≤ i ∧ i < 23 then M.mk 16 fun j => F (16 * i.toNat + j) else ⟨#[]⟩
theorem flashPage_any (h : DevAt w b t key F on wait next age) (hF : ∀ j, F j < 256) (i : Int) :
    Calls Tryz.prog 79 #[.pointer (some ⟨b, 1, none⟩), .int .i64 i] w fun e w' => e = .returned (.string (pageT F i)) ∧ w = w' := by
  have HH := hide h
  by_cases hi : 0 ≤ i ∧ i < 23
  · have HE : Hid (pageT F i = M.mk 16 fun j => F (16 * i.toNat + j)) := if_pos hi
    go_enter Tryz.func79, Tryz.ntmps79
    go_wp2_with fail
    refine (flashText_in (unhide HH) hF i.toNat 16 _ _ (by omega) (by omega) (by omega) rfl).mono ?_
    rintro e w' ⟨rfl, rfl⟩
    rw [← HE.out]
    generalize hy : pageT F i = y at *
    have HY := hide hy
    clear hy HE
    go_wp2
    go_ret
    exact ⟨ret_string HY.out.symm, rfl⟩
  · have HE : Hid (pageT F i = ⟨#[]⟩) := if_neg hi
    go_enter Tryz.func79, Tryz.ntmps79
    go_wp2_with fail
    refine (flashText_out _ b _ _ (by omega)).mono ?_
    rintro e w' ⟨rfl, rfl⟩
    go_wp2
    go_ret
    exact ⟨ret_string HE.out.symm, rfl⟩
theorem put_succ (F : Nat → Nat) (p : Nat) (s : Nat → Nat) (k : Nat) : M.put F p s (k + 1) = fun i => if i = 16 * p + k then s k else M.put F p s k i := by
  funext i
  unfold M.put
  by_cases e : i = 16 * p + k
  · subst e
    rw [if_pos ⟨by omega, by omega⟩, if_pos rfl, show 16 * p + k - 16 * p = k from by omega]
  · rw [if_neg e]
    by_cases h : 16 * p ≤ i ∧ i < 16 * p + k
    · rw [if_pos h, if_pos ⟨by omega, by omega⟩]
    · rw [if_neg h, if_neg (by omega)]
end
set_option maxRecDepth 10000 in
set_option maxHeartbeats 800000 in
theorem flashPut_any {w : World} {b : Nat} {t : TypeId} {key : ByteArray} {F : Nat → Nat} {on : Bool} {wait next age : Nat} (h : DevAt w b t key F on wait next age) (p : Nat) (s : ByteArray) (n : Int) (hp : p < 23) (hs : s.size ≤ maxLen) :
    Calls Tryz.prog 106 #[.pointer (some ⟨b, 1, none⟩), .agg #[.int .i64 p, .string s], .int .i64 n] w fun e w' => e = .returned (.tuple #[]) ∧ DevAt w' b t key (M.put F p (M.bz s) (M.tornN n)) on wait next age ∧ Only (· = b) w w' := by
  have HL := hide hs
  have hlt := h.lt
  have HD : Hid (DevAt (w.alloc (.cells #[.int .i64 p, .string s] 136)) b t key (M.put F p (M.bz s) 0) on wait next age) := by
    rw [M.put_none]
    exact h.mono ((Below.refl _ _).alloc (Nat.le_refl _) _) hlt
  have HO : Hid (Only (· = b) w (w.alloc (.cells #[.int .i64 p, .string s] 136))) := only_alloc _ _ _
  clear h
  go_enter Tryz.func106, Tryz.ntmps106
  go_wp2_with fail
  go_loopw [6, 7] (fun i _ wr => ∃ k : Nat, k ≤ M.tornN n ∧ i = .int .i64 k ∧ DevAt wr b t key (M.put F p (M.bz s) k) on wait next age ∧ Only (· = b) w wr ∧ wr.cell? ⟨w.heap.size, 0, none⟩ = some (.int .i64 p) ∧ wr.cell? ⟨w.heap.size, 1, none⟩ = some (.string s) ∧ w.heap.size < wr.heap.size) (fun i _ _ => 16 - (intOf i).toNat)
  case atStart => exact ⟨0, by omega, rfl, unhide HD, unhide HO, by simp, by simp, by simp⟩
  case round =>
    obtain ⟨k, hk, rfl, hd, ho, hc0, hc1, hsz⟩ := hrel
    have HK := hide hk
    have hk16 : k ≤ 16 := Nat.le_trans hk (M.tornN_le n)
    have HT : Hid (M.tornN n = min 16 n.toNat) := rfl
    clear hk
    by_cases hlt : (k : Int) < n ∧ k < 16
    · obtain ⟨hl1, hl2⟩ := hlt
      have hl3 : (k : Int) < 16 := by omega
      have b1 := M.bz_lt s k
      have hfz := hd.free (1 + (p * 16 + k))
      have hcl : wr.cell? ⟨b, 1 + (p * 16 + k), none⟩ = some (.int .u8 (M.put F p (M.bz s) k (16 * p + k) : Int)) := by
        have := hd.flash (j := 16 * p + k) (by omega)
        rw [show 1 + (p * 16 + k) = 1 + (16 * p + k) from by omega]; exact this
      have HDV := hide hd
      have HON := hide ho
      clear hd ho
      go_wp2_with fail
      refine (wordByte_nat s k _ (unhide HL)).mono ?_
      rintro e w' ⟨rfl, rfl⟩
      have HPS := hide (put_succ F p (M.bz s) k)
      generalize hy : M.bz s k = y at *
      have HY := hide hy
      clear hy
      have i0 : ¬ ((p : Int) * 16 + (k : Int)) < 0 := by omega
      have i1 : ((p : Int) * 16 + (k : Int)) < 368 := by omega
      have i2 : ((p : Int) * 16 + (k : Int)).toNat = p * 16 + k := by omega
      go_wp2_with fail
      go_region
      have HD2 : Hid (DevAt ((wr.setCell ⟨b, 1 + (p * 16 + k), none⟩ (.int .u8 (y : Int))).drew) b t key (M.put F p (M.bz s) (k + 1)) on wait next age) := by
        rw [HPS.out, show 1 + (p * 16 + k) = 1 + (16 * p + k) from by omega]
        exact ((unhide HDV).put (j := 16 * p + k) (by omega) y).drew
      have HO2 : Hid (Only (· = b) w ((wr.setCell ⟨b, 1 + (p * 16 + k), none⟩ (.int .u8 (y : Int))).drew)) := ((unhide HON).trans (only_set _ _ _ _)).drew
      have hne : ¬ b = w.heap.size := by omega
      have hc0' : ((wr.setCell ⟨b, 1 + (p * 16 + k), none⟩ (.int .u8 (y : Int))).drew).cell? ⟨w.heap.size, 0, none⟩ = some (.int .i64 p) := by
        refine Eq.trans ?_ hc0
        exact World.cell?_setCell_other _ _ _ _ (by intro e; have := congrArg Addr.block e; simp at this; omega)
      have hc1' : ((wr.setCell ⟨b, 1 + (p * 16 + k), none⟩ (.int .u8 (y : Int))).drew).cell? ⟨w.heap.size, 1, none⟩ = some (.string s) := by
        refine Eq.trans ?_ hc1
        exact World.cell?_setCell_other _ _ _ _ (by intro e; have := congrArg Addr.block e; simp at this; omega)
      have hsz' : w.heap.size < ((wr.setCell ⟨b, 1 + (p * 16 + k), none⟩ (.int .u8 (y : Int))).drew).heap.size := by simpa using hsz
      generalize (wr.setCell ⟨b, 1 + (p * 16 + k), none⟩ (.int .u8 (y : Int))).drew = w2 at *
      clear hcl hfz hc0 hc1 HY HDV HON
      go_wp2
      go_roundw
      case rel => exact ⟨k + 1, by rw [HT.out]; omega, by go_num, unhide HD2, unhide HO2, hc0', hc1', hsz'⟩
      case measure => simp [intOf]; omega
    · have HF : Hid (M.tornN n = k) := by have h1 := HT.out; have h2 := HK.out; show _ = _; rw [h1] at h2 ⊢; omega
      have HD2 : Hid (DevAt wr b t key (M.put F p (M.bz s) (M.tornN n)) on wait next age) := by rw [HF.out]; exact hd
      have HO2 := hide ho
      clear hd ho
      by_cases hl : (k : Int) < n
      · have hl3 : ¬ (k : Int) < 16 := by omega
        go_wp2
        refine bodyPost_end (v := .tuple #[]) (by simp [results, Tryz.results106, go_sem]) rfl ⟨rfl, unhide HD2, unhide HO2⟩
      · go_wp2
        refine bodyPost_end (v := .tuple #[]) (by simp [results, Tryz.results106, go_sem]) rfl ⟨rfl, unhide HD2, unhide HO2⟩
/- all pages of an event, one after the other -/
def gwsOf (l : List GW) : List M.Wr := l.map gwOf
theorem gwsOf_length (l : List GW) : (gwsOf l).length = l.length := by simp [gwsOf]
theorem puts_take {F : Nat → Nat} {l : List M.Wr} {k : Nat} (h : k < l.length) : M.puts F (l.take (k + 1)) = M.put (M.puts F (l.take k)) (l[k]).1 (l[k]).2 16 := by
  rw [List.take_succ_eq_append_getElem h, M.puts_append]
  rfl
def lastsB (cut : Int) (n : Nat) : Bool := !decide (0 ≤ cut ∧ cut < n)
def writtenF (F : Nat → Nat) (l : List GW) (cut torn : Int) : Nat → Nat := if 0 ≤ cut ∧ cut < l.length then M.cutAt F (gwsOf l) cut.toNat (M.tornN torn) else M.puts F (gwsOf l)
set_option maxRecDepth 10000 in
set_option maxHeartbeats 800000 in
theorem writeAll_any {w : World} {b : Nat} {t : TypeId} {key : ByteArray} {F : Nat → Nat} {on : Bool} {wait next age : Nat} (h : DevAt w b t key F on wait next age) (v : Value) (l : List GW) (cut torn : Int)
    (hrow : HoldsRow w v l.length (gwCells l)) (hne : v.ownBlock ≠ some b) (hlen : l.length ≤ 1000) (hl : ∀ a ∈ l, a.1 < 23 ∧ a.2.size ≤ maxLen) :
    Calls Tryz.prog 76 #[.pointer (some ⟨b, 1, none⟩), v, .int .i64 cut, .int .i64 torn] w fun e w' =>
      e = .returned (.bool (lastsB cut l.length)) ∧ DevAt w' b t key (writtenF F l cut torn) on wait next age ∧ Only (· = b) w w' := by
  have HH := hide h
  have hlt := h.lt
  obtain ⟨a0, cap, rfl, hcap1, hcap2, hx⟩ := hrow.shape
  have HX := hide hx
  have HNE := hide hne
  have HL := hide hl
  have hcap3 : l.length ≤ cap := hcap1
  unfold maxLen at hcap2
  clear h hrow hne hl hx
  go_enter Tryz.func76, Tryz.ntmps76
  go_wp2_with fail
  go_loopw [9] (fun i wr => ∃ k : Nat, k ≤ l.length ∧ i = .int .i64 k ∧ (∀ j : Nat, j < k → ¬ (j : Int) = cut) ∧ DevAt wr b t key (M.puts F ((gwsOf l).take k)) on wait next age ∧ Only (· = b) w wr) (fun i _ => l.length - (intOf i).toNat)
  case atStart => exact ⟨0, by omega, rfl, fun j hj => by omega, unhide HH, Only.refl _ _⟩
  case round =>
    obtain ⟨k, hk, rfl, hnc, hd, ho⟩ := hrel
    have HNC := hide hnc
    clear hnc
    by_cases hkl : k < l.length
    · obtain ⟨g, rfl, hg, hcell⟩ := unhide HX (by omega)
      have hgb : ¬ g = b := fun e => unhide HNE (by rw [e]; rfl)
      obtain ⟨c0, c1⟩ := gwCells_at hkl
      have e0 := (ho.cell (a := ⟨g, k * 2, none⟩) hg hgb).trans (hcell (k * 2) _ (by rw [Nat.mul_comm]; exact c0))
      have e1 := (ho.cell (a := ⟨g, k * 2 + 1, none⟩) hg hgb).trans (hcell (k * 2 + 1) _ (by rw [Nat.mul_comm]; exact c1))
      have HA := hide (unhide HL _ (List.getElem_mem hkl))
      have hgl : k < (gwsOf l).length := by rw [gwsOf_length]; exact hkl
      have HG : Hid ((gwsOf l)[k] = gwOf l[k]) := by show _ = _; simp [gwsOf]
      have HT : Hid (M.puts F ((gwsOf l).take (k + 1)) = M.put (M.puts F ((gwsOf l).take k)) (l[k]).1 (M.bz (l[k]).2) 16) := by show _ = _; rw [puts_take hgl, HG.out]; rfl
      have HC : Hid (M.cutAt F (gwsOf l) k (M.tornN torn) = M.put (M.puts F ((gwsOf l).take k)) (l[k]).1 (M.bz (l[k]).2) (M.tornN torn)) := by show _ = _; rw [M.cutAt_in hgl, HG.out]; rfl
      generalize (l[k]).1 = p at *
      generalize (l[k]).2 = s at *
      have HDV := hide hd
      have HON := hide ho
      have hi0 : (k : Int) < (l.length : Int) := by omega
      clear hd ho hcell c0 c1 hgl HG
      by_cases hc : (k : Int) = cut
      · subst hc
        have HW : Hid (writtenF F l k torn = M.put (M.puts F ((gwsOf l).take k)) p (M.bz s) (M.tornN torn)) := by
          show _ = _
          unfold writtenF
          rw [if_pos ⟨by omega, by omega⟩, Int.toNat_natCast, HC.out]
        have HB : Hid (false = lastsB k l.length) := by
          show _ = _
          unfold lastsB
          rw [decide_eq_true ⟨by omega, by omega⟩]
          rfl
        go_wp2_with fail
        refine (flashPut_any (unhide HDV) p s torn HA.out.1 HA.out.2).mono ?_
        rintro e w1 ⟨rfl, hd1, ho1⟩
        have HD1 : Hid (DevAt w1 b t key (writtenF F l k torn) on wait next age) := by rw [HW.out]; exact hd1
        have HO1 := hide ((unhide HON).trans ho1)
        clear hd1 ho1 e0 e1
        go_wp2
        go_ret
        exact ⟨ret_bool HB.out, unhide HD1, unhide HO1⟩
      · go_wp2_with fail
        refine (flashPut_any (unhide HDV) p s 16 HA.out.1 HA.out.2).mono ?_
        rintro e w1 ⟨rfl, hd1, ho1⟩
        have HD1 : Hid (DevAt w1 b t key (M.puts F ((gwsOf l).take (k + 1))) on wait next age) := by rw [HT.out]; exact hd1
        have HO1 := hide ((unhide HON).trans ho1)
        have HC2 := hide hc
        clear hd1 ho1 e0 e1 hc
        go_wp2
        go_roundw
        case rel =>
          refine ⟨k + 1, by omega, by go_num, fun j hj => ?_, unhide HD1, unhide HO1⟩
          by_cases e : j = k
          · subst e; exact HC2.out
          · exact HNC.out j (by omega)
        case measure => simp [intOf]; omega
    · have hkn : k = l.length := by omega
      have HW : Hid (writtenF F l cut torn = M.puts F ((gwsOf l).take k)) := by
        show _ = _
        unfold writtenF
        rw [if_neg, hkn, ← gwsOf_length, List.take_length]
        rintro ⟨h0, h1⟩
        exact HNC.out cut.toNat (by omega) (by omega)
      have HB : Hid (true = lastsB cut l.length) := by
        show _ = _
        unfold lastsB
        rw [decide_eq_false]
        · rfl
        · rintro ⟨h0, h1⟩
          exact HNC.out cut.toNat (by omega) (by omega)
      have HD1 : Hid (DevAt wr b t key (writtenF F l cut torn) on wait next age) := by rw [HW.out]; exact hd
      have HO1 := hide ho
      have hi0 : ¬ (k : Int) < (l.length : Int) := by omega
      clear hd ho hkn HW
      go_wp2
      go_ret
      exact ⟨ret_bool HB.out, unhide HD1, unhide HO1⟩
end Go.Proofs.YtjfmiomopfjecabGreat

/- Records: how they are read, and what the next one is. -/
namespace Go.Proofs.YtjfmiomopfjecabGreat
open Go.RowKit Go.Lib

/-- a record in memory: its page, its number, the kept slot, the phase, the tries, each slot's length and version, the chunks that are there -/
abbrev recV (pg num kp ph tr s0 v0 s1 v1 th : Int) : Value := .agg #[.int .i64 pg, .int .i64 num, .int .i64 kp, .int .i64 ph, .int .i64 tr, .int .i64 s0, .int .i64 v0, .int .i64 s1, .int .i64 v1, .int .i64 th]
theorem ret_rec {a0 a1 a2 a3 a4 a5 a6 a7 a8 a9 b0 b1 b2 b3 b4 b5 b6 b7 b8 b9 : Int} (h0 : a0 = b0) (h1 : a1 = b1) (h2 : a2 = b2) (h3 : a3 = b3) (h4 : a4 = b4) (h5 : a5 = b5) (h6 : a6 = b6) (h7 : a7 = b7) (h8 : a8 = b8) (h9 : a9 = b9) :
    Ending.returned (recV a0 a1 a2 a3 a4 a5 a6 a7 a8 a9) = .returned (recV b0 b1 b2 b3 b4 b5 b6 b7 b8 b9) := by rw [h0, h1, h2, h3, h4, h5, h6, h7, h8, h9]
theorem recWhole_any (s : ByteArray) (w : World) (hs : s.size ≤ maxLen) :
    Calls Tryz.prog 174 #[.string s] w fun e w' => e = .returned (.bool (decide (M.bz s 0 = M.bz s 15))) ∧ w = w' := by
  have HL := hide hs
  have HE : Hid (((M.bz s 0 : Int) == (M.bz s 15 : Int)) = decide (M.bz s 0 = M.bz s 15)) := by show _ = _; rw [Bool.eq_iff_iff]; simp; omega
  go_enter Tryz.func174, Tryz.ntmps174
  go_wp2_with fail
  refine (wordByte_at s _ 0 _ (unhide HL) rfl).mono ?_
  rintro e w' ⟨rfl, rfl⟩
  go_wp2_with fail
  refine (wordByte_at s _ 15 _ (unhide HL) rfl).mono ?_
  rintro e w' ⟨rfl, rfl⟩
  generalize hx : M.bz s 0 = x at *
  generalize hy : M.bz s 15 = y at *
  have HX := hide hx
  have HY := hide hy
  clear hx hy
  go_wp2
  go_ret
  exact ⟨ret_bool (by rw [HX.out, HY.out]; exact HE.out), rfl⟩
def followsB (a b : ByteArray) : Bool := decide (M.bz b 0 = M.bz b 15 ∧ (M.bz a 0 ≠ M.bz a 15 ∨ M.bz b 0 = (M.bz a 0 + 1) % 256))
theorem recFollows_any (a b : ByteArray) (w : World) (ha : a.size ≤ maxLen) (hb : b.size ≤ maxLen) :
    Calls Tryz.prog 140 #[.string a, .string b] w fun e w' => e = .returned (.bool (followsB a b)) ∧ w = w' := by
  have HA := hide ha
  have HB := hide hb
  have b0 := M.bz_lt a 0
  by_cases h1 : M.bz b 0 = M.bz b 15
  · by_cases h2 : M.bz a 0 = M.bz a 15
    · have HE : Hid (followsB a b = ((((M.bz a 0 + 1) % 256 : Nat) : Int) == (M.bz b 0 : Int))) := by
        show _ = _
        unfold followsB
        rw [Bool.eq_iff_iff]
        simp [h1, h2]
        omega
      go_enter Tryz.func140, Tryz.ntmps140
      go_wp2_with fail
      refine (recWhole_any b _ (unhide HB)).mono ?_
      rintro e w' ⟨rfl, rfl⟩
      rw [decide_eq_true h1]
      go_wp2_with fail
      refine (recWhole_any a _ (unhide HA)).mono ?_
      rintro e w' ⟨rfl, rfl⟩
      rw [decide_eq_true h2]
      go_wp2_with fail
      refine (wordByte_at a _ 0 _ (unhide HA) rfl).mono ?_
      rintro e w' ⟨rfl, rfl⟩
      clear h2
      go_wp2_with fail
      refine (wordByte_at b _ 0 _ (unhide HB) rfl).mono ?_
      rintro e w' ⟨rfl, rfl⟩
      clear h1
      generalize hx : M.bz a 0 = x at *
      generalize hy : M.bz b 0 = y at *
      clear hx hy
      have HX := hide HE
      clear HE
      go_wp2
      go_ret
      exact ⟨ret_bool (by rw [(unhide HX).out]; congr 1), rfl⟩
    · have HE : Hid (followsB a b = true) := by
        show _ = _
        unfold followsB
        exact decide_eq_true ⟨h1, .inl h2⟩
      go_enter Tryz.func140, Tryz.ntmps140
      go_wp2_with fail
      refine (recWhole_any b _ (unhide HB)).mono ?_
      rintro e w' ⟨rfl, rfl⟩
      rw [decide_eq_true h1]
      go_wp2_with fail
      refine (recWhole_any a _ (unhide HA)).mono ?_
      rintro e w' ⟨rfl, rfl⟩
      rw [decide_eq_false h2]
      go_wp2
      go_ret
      exact ⟨ret_bool HE.out.symm, rfl⟩
  · have HE : Hid (followsB a b = false) := by
      show _ = _
      unfold followsB
      exact decide_eq_false (fun h => h1 h.1)
    go_enter Tryz.func140, Tryz.ntmps140
    go_wp2_with fail
    refine (recWhole_any b _ (unhide HB)).mono ?_
    rintro e w' ⟨rfl, rfl⟩
    rw [decide_eq_false h1]
    go_wp2
    go_ret
    exact ⟨ret_bool HE.out.symm, rfl⟩
/-- the record that a page's text tells -/
abbrev recT (pg : Nat) (s : ByteArray) : Value := recV pg (M.bz s 0) (M.bz s 1) (M.bz s 2) (M.bz s 3) (M.bz s 4) (M.bz s 6 * 256 + M.bz s 7 : Nat) (M.bz s 5) (M.bz s 8 * 256 + M.bz s 9 : Nat) (M.bz s 10)
set_option maxRecDepth 10000 in
theorem recRead_any (pg : Nat) (s : ByteArray) (w : World) (hs : s.size ≤ maxLen) :
    Calls Tryz.prog 141 #[.int .i64 pg, .string s] w fun e w' => e = .returned (recT pg s) ∧ Below w.heap.size w w' := by
  have HL := hide hs
  go_enter Tryz.func141, Tryz.ntmps141
  go_wp2_with fail
  refine (wordByte_at s _ 0 _ (unhide HL) rfl).mono ?_
  rintro e w' ⟨rfl, rfl⟩
  go_wp2_with fail
  refine (wordByte_at s _ 1 _ (unhide HL) rfl).mono ?_
  rintro e w' ⟨rfl, rfl⟩
  go_wp2_with fail
  refine (wordByte_at s _ 2 _ (unhide HL) rfl).mono ?_
  rintro e w' ⟨rfl, rfl⟩
  go_wp2_with fail
  refine (wordByte_at s _ 3 _ (unhide HL) rfl).mono ?_
  rintro e w' ⟨rfl, rfl⟩
  go_wp2_with fail
  refine (wordByte_at s _ 4 _ (unhide HL) rfl).mono ?_
  rintro e w' ⟨rfl, rfl⟩
  go_wp2_with fail
  refine (wordNumber_any s _ 6 _ (unhide HL) rfl (by omega)).mono ?_
  rintro e w' ⟨rfl, rfl⟩
  go_wp2_with fail
  refine (wordByte_at s _ 5 _ (unhide HL) rfl).mono ?_
  rintro e w' ⟨rfl, rfl⟩
  go_wp2_with fail
  refine (wordNumber_any s _ 8 _ (unhide HL) rfl (by omega)).mono ?_
  rintro e w' ⟨rfl, rfl⟩
  go_wp2_with fail
  refine (wordByte_at s _ 10 _ (unhide HL) rfl).mono ?_
  rintro e w' ⟨rfl, rfl⟩
  go_wp2
  refine bodyPost_ret (v := recT pg s) (by simp [results, Tryz.results141, go_sem]) rfl ⟨rfl, ?_⟩
  exact (Below.refl _ _).alloc (Nat.le_refl _) _
set_option maxRecDepth 10000 in
theorem recNext_any (pg num kp ph tr s0 v0 s1 v1 th : Nat) (w : World) (hp : pg ≤ 1) (hn : num < 256) :
    Calls Tryz.prog 189 #[recV pg num kp ph tr s0 v0 s1 v1 th] w fun e w' => e = .returned (recV (1 - pg : Nat) ((num + 1) % 256 : Nat) kp ph tr s0 v0 s1 v1 th) ∧ Below w.heap.size w w' := by
  go_enter Tryz.func189, Tryz.ntmps189
  go_wp2
  refine bodyPost_ret (v := recV (1 - (pg : Int)) (((num : Int) + 1) % 256) kp ph tr s0 v0 s1 v1 th) (by simp [results, Tryz.results189, go_sem]) rfl ⟨ret_rec (by omega) (by omega) rfl rfl rfl rfl rfl rfl rfl rfl, ?_⟩
  exact ((Below.refl _ _).alloc (Nat.le_refl _) _).alloc (by simp) _
theorem two_alloc {w w' : World} {o1 o2 : Obj} (h : Below (w.heap.size + 2) ((w.alloc o1).alloc o2) w') : Below w.heap.size w w' :=
  (((Below.refl _ _).alloc (Nat.le_refl _) _).alloc (by simp) _).trans (h.mono (by omega))
theorem last_block (w : World) (o : Obj) {n : Nat} (h : n = w.heap.size) : (w.alloc o).heap[n]? = some o := by subst h; exact heap_alloc_last w o
theorem first_block (w : World) (o o2 : Obj) : ((w.alloc o).alloc o2).heap[w.heap.size]? = some o := (Below.heap_alloc _ _ _ (by simp)).trans (heap_alloc_last w o)
theorem block_facts {w : World} {g : Nat} {c : Array Value} {t : TypeId} (h : w.heap[g]? = some (.cells c t (0, 0))) : (∀ o, w.cell? ⟨g, o, none⟩ = c[o]?) ∧ ∀ o, w.frozen? ⟨g, o, none⟩ = false := by
  refine ⟨fun o => cell_in h o, fun o => ?_⟩
  unfold World.frozen?
  rw [h]
  simp
set_option maxRecDepth 10000 in
theorem recPhase_any (pg num kp ph tr s0 v0 s1 v1 th p q : Nat) (w : World) (hp : pg ≤ 1) (hn : num < 256) :
    Calls Tryz.prog 183 #[recV pg num kp ph tr s0 v0 s1 v1 th, .int .i64 p, .int .i64 q] w fun e w' => e = .returned (recV (1 - pg : Nat) ((num + 1) % 256 : Nat) kp p q s0 v0 s1 v1 0) ∧ Below w.heap.size w w' := by
  go_enter Tryz.func183, Tryz.ntmps183
  go_wp2_with fail
  refine (recNext_any pg num kp ph tr s0 v0 s1 v1 th _ hp hn).mono ?_
  rintro e w1 ⟨rfl, hb⟩
  have HB : Hid (Below w.heap.size w w1) := two_alloc (hb.mono (by simp))
  obtain ⟨hz, hfz⟩ := block_facts ((hb.block (w.heap.size + 1) (by simp)).trans (last_block _ _ (by simp)))
  have hsz := hb.size
  simp only [World.size_alloc] at hsz
  have hs1 : w.heap.size + 1 < w1.heap.size := by omega
  have hn1 : ¬ w.heap.size + 1 = w1.heap.size := by omega
  clear hb hsz
  generalize hN : (num + 1) % 256 = N at *
  generalize hP : 1 - pg = P at *
  have HN := hide hN
  have HP := hide hP
  clear hN hP
  go_wp2
  refine bodyPost_ret (v := recV P N kp p q s0 v0 s1 v1 0) (by simp [results, Tryz.results183, go_sem, hz, hs1]) rfl ⟨ret_rec (by rw [HP.out]) (by rw [HN.out]) rfl rfl rfl rfl rfl rfl rfl rfl, ?_⟩
  · refine Below.alloc ?_ (by simp; omega) _
    iterate 10 refine Below.setCell ?_ (by simp) _
    exact unhide HB
set_option maxRecDepth 10000 in
theorem recSteady_any (pg num kp ph tr s0 v0 s1 v1 th : Nat) (w : World) (hp : pg ≤ 1) (hn : num < 256) :
    Calls Tryz.prog 164 #[recV pg num kp ph tr s0 v0 s1 v1 th] w fun e w' => e = .returned (recV (1 - pg : Nat) ((num + 1) % 256 : Nat) kp 0 0 s0 v0 s1 v1 0) ∧ Below w.heap.size w w' := by
  go_enter Tryz.func164, Tryz.ntmps164
  go_wp2_with fail
  refine (recPhase_any pg num kp ph tr s0 v0 s1 v1 th 0 0 _ hp hn).mono ?_
  rintro e w1 ⟨rfl, hb⟩
  have HB : Hid (Below w.heap.size w w1) := two_alloc (hb.mono (by simp))
  obtain ⟨hz, hfz⟩ := block_facts ((hb.block (w.heap.size + 1) (by simp)).trans (last_block _ _ (by simp)))
  have hsz := hb.size
  simp only [World.size_alloc] at hsz
  have hs1 : w.heap.size + 1 < w1.heap.size := by omega
  have hn1 : ¬ w.heap.size + 1 = w1.heap.size := by omega
  clear hb hsz
  generalize hN : (num + 1) % 256 = N at *
  generalize hP : 1 - pg = P at *
  have HN := hide hN
  have HP := hide hP
  clear hN hP
  go_wp2
  refine bodyPost_ret (v := recV P N kp 0 0 s0 v0 s1 v1 0) (by simp [results, Tryz.results164, go_sem, hz]) rfl ⟨ret_rec (by rw [HP.out]) (by rw [HN.out]) rfl rfl rfl rfl rfl rfl rfl rfl, ?_⟩
  · iterate 10 refine Below.setCell ?_ (by simp) _
    exact unhide HB
set_option maxRecDepth 10000 in
theorem recFetching_any (pg num kp ph tr s0 v0 s1 v1 th : Nat) (w : World) (hp : pg ≤ 1) (hn : num < 256) :
    Calls Tryz.prog 165 #[recV pg num kp ph tr s0 v0 s1 v1 th] w fun e w' => e = .returned (recV (1 - pg : Nat) ((num + 1) % 256 : Nat) kp 1 0 s0 v0 s1 v1 0) ∧ Below w.heap.size w w' := by
  go_enter Tryz.func165, Tryz.ntmps165
  go_wp2_with fail
  refine (recPhase_any pg num kp ph tr s0 v0 s1 v1 th 1 0 _ hp hn).mono ?_
  rintro e w1 ⟨rfl, hb⟩
  have HB : Hid (Below w.heap.size w w1) := two_alloc (hb.mono (by simp))
  obtain ⟨hz, hfz⟩ := block_facts ((hb.block (w.heap.size + 1) (by simp)).trans (last_block _ _ (by simp)))
  have hsz := hb.size
  simp only [World.size_alloc] at hsz
  have hs1 : w.heap.size + 1 < w1.heap.size := by omega
  have hn1 : ¬ w.heap.size + 1 = w1.heap.size := by omega
  clear hb hsz
  generalize hN : (num + 1) % 256 = N at *
  generalize hP : 1 - pg = P at *
  have HN := hide hN
  have HP := hide hP
  clear hN hP
  go_wp2
  refine bodyPost_ret (v := recV P N kp 1 0 s0 v0 s1 v1 0) (by simp [results, Tryz.results165, go_sem, hz]) rfl ⟨ret_rec (by rw [HP.out]) (by rw [HN.out]) rfl rfl rfl rfl rfl rfl rfl rfl, ?_⟩
  · iterate 10 refine Below.setCell ?_ (by simp) _
    exact unhide HB
end Go.Proofs.YtjfmiomopfjecabGreat

/- Records: what they tell, and those that follow them. -/
namespace Go.Proofs.YtjfmiomopfjecabGreat
open Go.RowKit Go.Lib

theorem M.or_i64 (a b : Nat) (ha : a < 9223372036854775808) (hb : b < 9223372036854775808) : bits .or .i64 (a : Int) (b : Int) = ((a ||| b : Nat) : Int) := by
  have hx : a ||| b < 2 ^ 63 := Nat.or_lt_two_pow (by omega) (by omega)
  show IntKind.i64.wrap ((BitVec.ofInt 64 (a : Int) ||| BitVec.ofInt 64 (b : Int)).toNat : Int) = _
  rw [BitVec.toNat_or, M.ofInt_i64 a ha, M.ofInt_i64 b hb, IntKind.wrap_i64]
  omega
set_option maxRecDepth 1000000 in
set_option maxHeartbeats 4000000 in
theorem bits_all : ∀ i, i < 6 → ∀ x, x < 256 → ((x &&& 2 ^ i ≠ 0) ↔ x / 2 ^ i % 2 = 1) ∧ (x / 2 ^ i % 2 ≠ 1 → x ||| 2 ^ i = x + 2 ^ i) := by decide
theorem or_bit {x i : Nat} (hx : x < 256) (hi : i < 6) (h : x / 2 ^ i % 2 ≠ 1) : x ||| 2 ^ i = x + 2 ^ i := (bits_all i hi x hx).2 h
theorem and_bit {x i : Nat} (hx : x < 256) (hi : i < 6) : (x &&& 2 ^ i ≠ 0) ↔ x / 2 ^ i % 2 = 1 := (bits_all i hi x hx).1
theorem recBit_any (i : Nat) (w : World) (hi : i < 6) :
    Calls Tryz.prog 143 #[.int .i64 i] w fun e w' => e = .returned (.int .i64 (2 ^ i : Nat)) ∧ w = w' := by
  have hc : i = 0 ∨ i = 1 ∨ i = 2 ∨ i = 3 ∨ i = 4 ∨ i = 5 := by omega
  rcases hc with rfl | rfl | rfl | rfl | rfl | rfl
  all_goals
    go_enter Tryz.func143, Tryz.ntmps143
    go_wp2
    go_ret
    exact ⟨rfl, rfl⟩
set_option maxRecDepth 10000 in
theorem recHas_any (pg num kp ph tr s0 v0 s1 v1 th i : Nat) (w : World) (hth : th < 256) (hi : i < 6) :
    Calls Tryz.prog 116 #[recV pg num kp ph tr s0 v0 s1 v1 th, .int .i64 i] w fun e w' => e = .returned (.bool (decide (th / 2 ^ i % 2 = 1))) ∧ Below w.heap.size w w' := by
  have hB : 2 ^ i < 256 := Nat.lt_of_lt_of_le (Nat.pow_lt_pow_right (by omega) hi) (by decide)
  have HE : Hid ((((th &&& 2 ^ i : Nat) : Int) != 0) = decide (th / 2 ^ i % 2 = 1)) := by
    show _ = _
    rw [Bool.eq_iff_iff, decide_eq_true_iff, ← and_bit hth hi]
    simp
  have hand := M.and_i64 th (2 ^ i) (by omega) (by omega)
  have hbit := hide (fun W => recBit_any i W hi)
  generalize 2 ^ i = B at *
  go_enter Tryz.func116, Tryz.ntmps116
  go_wp2_with fail
  go_region_held3 (fun W => W.cell? ⟨w.heap.size, 9, none⟩ = some (.int .i64 th)) (go_keep) ((go_at_call 143; refine (unhide hbit _).mono ?_; rintro e w' ⟨rfl, rfl⟩))
  all_goals
    go_wp2
    go_ret
    exact ⟨ret_bool HE.out, ((Below.refl _ _).alloc (Nat.le_refl _) _).drew⟩
theorem one_alloc {w w' : World} {o1 : Obj} (h : Below (w.heap.size + 1) (w.alloc o1) w') : Below w.heap.size w w' :=
  ((Below.refl _ _).alloc (Nat.le_refl _) _).trans (h.mono (by omega))
theorem recOther_any (pg num kp ph tr s0 v0 s1 v1 th : Nat) (w : World) (hk : kp ≤ 1) :
    Calls Tryz.prog 114 #[recV pg num kp ph tr s0 v0 s1 v1 th] w fun e w' => e = .returned (.int .i64 (1 - kp : Nat)) ∧ Below w.heap.size w w' := by
  go_enter Tryz.func114, Tryz.ntmps114
  go_wp2
  go_ret
  exact ⟨ret_int (by omega), (Below.refl _ _).alloc (Nat.le_refl _) _⟩
theorem recServed_any (pg num kp ph tr s0 v0 s1 v1 th : Nat) (w : World) (hk : kp ≤ 1) :
    Calls Tryz.prog 82 #[recV pg num kp ph tr s0 v0 s1 v1 th] w fun e w' => e = .returned (.int .i64 (if ph = 2 then 1 - kp else kp : Nat)) ∧ Below w.heap.size w w' := by
  by_cases h : ph = 2
  · have h2 : (ph : Int) = 2 := by omega
    go_enter Tryz.func82, Tryz.ntmps82
    go_wp2_with fail
    refine (recOther_any pg num kp 2 tr s0 v0 s1 v1 th _ hk).mono ?_
    rintro e w1 ⟨rfl, hb⟩
    have HB : Hid (Below w.heap.size w w1) := one_alloc (hb.mono (by simp))
    clear hb
    generalize hx : 1 - kp = x at *
    have HX := hide hx
    clear hx
    go_wp2
    go_ret
    exact ⟨ret_int (by rw [HX.out]), unhide HB⟩
  · have h2 : ¬ (ph : Int) = 2 := by omega
    go_enter Tryz.func82, Tryz.ntmps82
    go_wp2
    go_ret
    exact ⟨rfl, (Below.refl _ _).alloc (Nat.le_refl _) _⟩
set_option maxRecDepth 10000 in
theorem recSlot_any (pg num kp ph tr s0 v0 s1 v1 th i : Nat) (w : World) :
    Calls Tryz.prog 81 #[recV pg num kp ph tr s0 v0 s1 v1 th, .int .i64 i] w fun e w' => e = .returned (.agg #[.int .i64 (if i = 0 then s0 else s1 : Nat), .int .i64 (if i = 0 then v0 else v1 : Nat)]) ∧ Below w.heap.size w w' := by
  by_cases h : i = 0
  · subst h
    rw [if_pos rfl, if_pos rfl]
    go_enter Tryz.func81, Tryz.ntmps81
    go_wp2
    refine bodyPost_ret (v := .agg #[.int .i64 s0, .int .i64 v0]) (by simp [results, Tryz.results81, go_sem]) rfl ⟨rfl, ?_⟩
    exact ((Below.refl _ _).alloc (Nat.le_refl _) _).alloc (by simp) _
  · rw [if_neg h, if_neg h]
    have h2 : ¬ (i : Int) = 0 := by omega
    go_enter Tryz.func81, Tryz.ntmps81
    go_wp2
    refine bodyPost_ret (v := .agg #[.int .i64 s1, .int .i64 v1]) (by simp [results, Tryz.results81, go_sem]) rfl ⟨rfl, ?_⟩
    exact ((Below.refl _ _).alloc (Nat.le_refl _) _).alloc (by simp) _
set_option maxRecDepth 10000 in
theorem recFirst_any (s v : Nat) (w : World) :
    Calls Tryz.prog 74 #[.agg #[.int .i64 s, .int .i64 v]] w fun e w' => e = .returned (recV 0 1 0 0 0 s v 0 0 0) ∧ Below w.heap.size w w' := by
  go_enter Tryz.func74, Tryz.ntmps74
  go_wp2
  refine bodyPost_ret (v := recV 0 1 0 0 0 s v 0 0 0) (by simp [results, Tryz.results74, go_sem]) rfl ⟨rfl, ?_⟩
  exact ((Below.refl _ _).alloc (Nat.le_refl _) _).alloc (by simp) _
theorem recPhase_at (pg num kp ph tr s0 v0 s1 v1 th p q : Nat) (k : Int) (w : World) (hp : pg ≤ 1) (hn : num < 256) (hk : k = q) :
    Calls Tryz.prog 183 #[recV pg num kp ph tr s0 v0 s1 v1 th, .int .i64 p, .int .i64 k] w fun e w' => e = .returned (recV (1 - pg : Nat) ((num + 1) % 256 : Nat) kp p q s0 v0 s1 v1 0) ∧ Below w.heap.size w w' := by
  subst hk
  exact recPhase_any pg num kp ph tr s0 v0 s1 v1 th p q w hp hn
def standT (a b : ByteArray) : Value := if followsB a b = true then recT 1 b else recT 0 a
set_option maxRecDepth 10000 in
theorem recStanding_any (a b : ByteArray) (w : World) (ha : a.size ≤ maxLen) (hb : b.size ≤ maxLen) :
    Calls Tryz.prog 113 #[.string a, .string b] w fun e w' => e = .returned (standT a b) ∧ Below w.heap.size w w' := by
  have HA := hide ha
  have HBs := hide hb
  have HF := hide (fun W => recFollows_any a b W ha hb)
  cases hf : followsB a b
  · have HE : Hid (recT 0 a = standT a b) := by show _ = _; unfold standT; rw [hf]; rfl
    go_enter Tryz.func113, Tryz.ntmps113
    go_wp2_with fail
    refine (unhide HF _).mono ?_
    rintro e w' ⟨rfl, rfl⟩
    rw [hf]
    go_wp2_with fail
    refine (recRead_any 0 a _ (unhide HA)).mono ?_
    rintro e w1 ⟨rfl, hb⟩
    have HB : Hid (Below w.heap.size w w1) := one_alloc (hb.mono (by simp))
    obtain ⟨hz, hfz⟩ := block_facts ((hb.block w.heap.size (by simp)).trans (last_block _ _ rfl))
    clear hb
    go_wp2
    refine bodyPost_ret (v := recT 0 a) (by simp [results, Tryz.results113, go_sem, hz]) rfl ⟨by rw [HE.out], ?_⟩
    · iterate 10 refine Below.setCell ?_ (by simp) _
      exact unhide HB
  · have HE : Hid (recT 1 b = standT a b) := by show _ = _; unfold standT; rw [hf]; rfl
    go_enter Tryz.func113, Tryz.ntmps113
    go_wp2_with fail
    refine (unhide HF _).mono ?_
    rintro e w' ⟨rfl, rfl⟩
    rw [hf]
    go_wp2_with fail
    refine (recRead_any 1 b _ (unhide HBs)).mono ?_
    rintro e w1 ⟨rfl, hb⟩
    have HB : Hid (Below w.heap.size w w1) := one_alloc (hb.mono (by simp))
    obtain ⟨hz, hfz⟩ := block_facts ((hb.block w.heap.size (by simp)).trans (last_block _ _ rfl))
    clear hb
    go_wp2
    refine bodyPost_ret (v := recT 1 b) (by simp [results, Tryz.results113, go_sem, hz]) rfl ⟨by rw [HE.out], ?_⟩
    · iterate 10 refine Below.setCell ?_ (by simp) _
      exact unhide HB
set_option maxRecDepth 10000 in
theorem recTried_any (pg num kp ph tr s0 v0 s1 v1 th p q : Nat) (w : World) (hp : pg ≤ 1) (hn : num < 256) (ht : tr < 256) (hpq : if tr = 0 then p = 0 ∧ q = 0 else p = 2 ∧ q = tr - 1) :
    Calls Tryz.prog 157 #[recV pg num kp ph tr s0 v0 s1 v1 th] w fun e w' => e = .returned (recV (1 - pg : Nat) ((num + 1) % 256 : Nat) kp p q s0 v0 s1 v1 0) ∧ Below w.heap.size w w' := by
  by_cases h0 : tr = 0
  · rw [if_pos h0] at hpq
    obtain ⟨rfl, rfl⟩ := hpq
    subst h0
    go_enter Tryz.func157, Tryz.ntmps157
    go_wp2_with fail
    refine (recSteady_any pg num kp ph 0 s0 v0 s1 v1 th _ hp hn).mono ?_
    rintro e w1 ⟨rfl, hb⟩
    have HB : Hid (Below w.heap.size w w1) := two_alloc (hb.mono (by simp))
    obtain ⟨hz, hfz⟩ := block_facts ((hb.block (w.heap.size + 1) (by simp)).trans (last_block _ _ (by simp)))
    obtain ⟨hy, hfy⟩ := block_facts ((hb.block w.heap.size (by simp; omega)).trans (first_block _ _ _))
    have hsz := hb.size
    simp only [World.size_alloc] at hsz
    have hs1 : w.heap.size + 1 < w1.heap.size := by omega
    have hs0 : w.heap.size < w1.heap.size := by omega
    have hn1 : ¬ w.heap.size + 1 = w1.heap.size := by omega
    have hn0 : ¬ w.heap.size = w1.heap.size := by omega
    clear hb hsz
    generalize hN : (num + 1) % 256 = N at *
    generalize hP : 1 - pg = P at *
    have HN := hide hN
    have HP := hide hP
    clear hN hP
    go_wp2
    refine bodyPost_ret (v := recV P N kp 0 0 s0 v0 s1 v1 0) (by simp [results, Tryz.results157, go_sem, hz]) rfl ⟨ret_rec (by rw [HP.out]) (by rw [HN.out]) rfl rfl rfl rfl rfl rfl rfl rfl, ?_⟩
    · iterate 10 refine Below.setCell ?_ (by simp) _
      exact unhide HB
  · rw [if_neg h0] at hpq
    obtain ⟨rfl, rfl⟩ := hpq
    have h2 : ¬ (tr : Int) = 0 := by omega
    go_enter Tryz.func157, Tryz.ntmps157
    go_wp2_with fail
    refine (recPhase_at pg num kp ph tr s0 v0 s1 v1 th 2 (tr - 1) _ _ hp hn (by omega)).mono ?_
    rintro e w1 ⟨rfl, hb⟩
    have HB : Hid (Below w.heap.size w w1) := two_alloc (hb.mono (by simp))
    obtain ⟨hz, hfz⟩ := block_facts ((hb.block (w.heap.size + 1) (by simp)).trans (last_block _ _ (by simp)))
    obtain ⟨hy, hfy⟩ := block_facts ((hb.block w.heap.size (by simp; omega)).trans (first_block _ _ _))
    have hsz := hb.size
    simp only [World.size_alloc] at hsz
    have hs1 : w.heap.size + 1 < w1.heap.size := by omega
    have hs0 : w.heap.size < w1.heap.size := by omega
    have hn1 : ¬ w.heap.size + 1 = w1.heap.size := by omega
    have hn0 : ¬ w.heap.size = w1.heap.size := by omega
    clear hb hsz
    generalize hN : (num + 1) % 256 = N at *
    generalize hP : 1 - pg = P at *
    have HN := hide hN
    have HP := hide hP
    clear hN hP
    generalize hT : tr - 1 = T at *
    have HT := hide hT
    clear hT
    go_wp2
    refine bodyPost_ret (v := recV P N kp 2 T s0 v0 s1 v1 0) (by simp [results, Tryz.results157, go_sem, hz]) rfl ⟨ret_rec (by rw [HP.out]) (by rw [HN.out]) rfl rfl (by rw [HT.out]) rfl rfl rfl rfl rfl, ?_⟩
    · iterate 10 refine Below.setCell ?_ (by simp) _
      exact unhide HB
end Go.Proofs.YtjfmiomopfjecabGreat

/- The page of a record; the records of chunks, of trials and of what is confirmed. -/
namespace Go.Proofs.YtjfmiomopfjecabGreat
open Go.RowKit Go.Lib

theorem numText_run (w : World) (n : Nat) :
    (convert 79 9 (.slice (some ⟨w.heap.size, 0, none⟩) 2 2)).run Tryz.prog (w.alloc (.cells #[.int .u8 (n / 256 : Nat), .int .u8 (n % 256 : Nat)] 5)) =
      .ok (.string (M.bytesOf [n / 256, n % 256])) (w.alloc (.cells #[.int .u8 (n / 256 : Nat), .int .u8 (n % 256 : Nat)] 5)) := text_run w [((n / 256 : Nat) : Int), ((n % 256 : Nat) : Int)] 2 rfl
theorem numSplit_any (n : Nat) (w : World) (h : n ≤ 65535) :
    Calls Tryz.prog 156 #[.int .i64 n] w fun e w' => e = .returned (.tuple #[.int .i64 (n / 256 : Nat), .int .i64 (n % 256 : Nat)]) ∧ w = w' := by
  go_enter Tryz.func156, Tryz.ntmps156
  go_wp2
  go_ret2
  exact ⟨ret_pair (by omega) (by omega), rfl⟩
theorem numText_any (n : Nat) (w : World) (h : n ≤ 65535) :
    Calls Tryz.prog 131 #[.int .i64 n] w fun e w' => e = .returned (.string (M.bytesOf [n / 256, n % 256])) ∧ Below w.heap.size w w' := by
  have hr := numText_run w n
  have h1 : n / 256 < 256 := by omega
  have h2 : n % 256 < 256 := by omega
  go_enter Tryz.func131, Tryz.ntmps131
  go_wp2_with fail
  refine (numSplit_any n _ h).mono ?_
  rintro e w' ⟨rfl, rfl⟩
  generalize hx : n / 256 = x at *
  generalize hy : n % 256 = y at *
  have HX := hide hx
  have HY := hide hy
  clear hx hy
  go_wp2
  go_ret
  exact ⟨ret_string (by rw [HX.out, HY.out]), (Below.refl _ _).alloc (Nat.le_refl _) _⟩
def numT (n : Nat) : ByteArray := M.bytesOf [n / 256, n % 256]
theorem numT_size (n : Nat) : (numT n).size = 2 := rfl
theorem numText_cum {w0 : World} {B : Nat} (v : Int) (W : World) (h0 : 0 ≤ v) (h1 : v ≤ 65535) (hB : B ≤ W.heap.size) (hW : Below B w0 W) :
    Calls Tryz.prog 131 #[.int .i64 v] W fun e w' => e = .returned (.string (numT v.toNat)) ∧ Below B w0 w' ∧ B ≤ w'.heap.size := by
  obtain ⟨n, rfl⟩ := Int.eq_ofNat_of_zero_le h0
  rw [Int.toNat_natCast]
  exact (numText_any n W (by omega)).mono fun _ _ ⟨a, b⟩ => ⟨a, hW.trans (b.mono hB), Nat.le_trans hB b.size⟩
/-- the page of a record -/
def recP (num kp ph tr s0 v0 s1 v1 th : Nat) : ByteArray := M.mk 16 (M.recB num kp ph tr s0 s1 (v0 / 256) (v0 % 256) (v1 / 256) (v1 % 256) th)
theorem recP_is (num kp ph tr s0 v0 s1 v1 th : Nat) : M.bytesOf [num, kp, ph, tr, s0, s1] ++ (M.bytesOf [v0 / 256, v0 % 256] ++ M.bytesOf [v1 / 256, v1 % 256]) ++ M.bytesOf [th, 0, 0, 0, 0, num] = recP num kp ph tr s0 v0 s1 v1 th := by
  rw [M.bytesOf_append, M.bytesOf_append, M.bytesOf_append]
  rfl
theorem six_run (w : World) (a b c d e f : Nat) :
    (convert 79 9 (.slice (some ⟨w.heap.size, 0, none⟩) 6 6)).run Tryz.prog (w.alloc (.cells #[.int .u8 (a : Int), .int .u8 (b : Int), .int .u8 (c : Int), .int .u8 (d : Int), .int .u8 (e : Int), .int .u8 (f : Int)] 5)) =
      .ok (.string (M.bytesOf [a, b, c, d, e, f])) (w.alloc (.cells #[.int .u8 (a : Int), .int .u8 (b : Int), .int .u8 (c : Int), .int .u8 (d : Int), .int .u8 (e : Int), .int .u8 (f : Int)] 5)) := text_run w [(a : Int), (b : Int), (c : Int), (d : Int), (e : Int), (f : Int)] 6 rfl
theorem tail_run (w : World) (a f : Nat) :
    (convert 79 9 (.slice (some ⟨w.heap.size, 0, none⟩) 6 6)).run Tryz.prog (w.alloc (.cells #[.int .u8 (a : Int), .int .u8 0, .int .u8 0, .int .u8 0, .int .u8 0, .int .u8 (f : Int)] 5)) =
      .ok (.string (M.bytesOf [a, 0, 0, 0, 0, f])) (w.alloc (.cells #[.int .u8 (a : Int), .int .u8 0, .int .u8 0, .int .u8 0, .int .u8 0, .int .u8 (f : Int)] 5)) := text_run w [(a : Int), 0, 0, 0, 0, (f : Int)] 6 rfl
theorem box_cell {w W : World} {c : Array Value} {t : TypeId} (h : Below (w.heap.size + 1) (w.alloc (.cells c t)) W) (o : Nat) : W.cell? ⟨w.heap.size, o, none⟩ = c[o]? := by
  have e := h.cell (p := ⟨w.heap.size, o, none⟩) (by show w.heap.size < w.heap.size + 1; omega)
  rw [e, cell_in (heap_alloc_last w (.cells c t)) o]
set_option maxRecDepth 10000 in
set_option maxHeartbeats 1000000 in
theorem recText_any (pg num kp ph tr s0 v0 s1 v1 th : Nat) (w : World) (h0 : num < 256) (h1 : kp < 256) (h2 : ph < 256) (h3 : tr < 256) (h4 : s0 < 256) (h5 : s1 < 256) (h6 : v0 ≤ 65535) (h7 : v1 ≤ 65535) (h8 : th < 256) :
    Calls Tryz.prog 105 #[recV pg num kp ph tr s0 v0 s1 v1 th] w fun e w' => e = .returned (.string (recP num kp ph tr s0 v0 s1 v1 th)) ∧ Below w.heap.size w w' := by
  have HE := hide (recP_is num kp ph tr s0 v0 s1 v1 th)
  have hr1 := six_run (w.alloc (.cells #[.int .i64 pg, .int .i64 num, .int .i64 kp, .int .i64 ph, .int .i64 tr, .int .i64 s0, .int .i64 v0, .int .i64 s1, .int .i64 v1, .int .i64 th] 133)) num kp ph tr s0 s1
  simp only [World.size_alloc] at hr1
  have Z1 : (M.bytesOf [num, kp, ph, tr, s0, s1]).size ≤ 6 := Nat.le_refl _
  generalize M.bytesOf [num, kp, ph, tr, s0, s1] = T1 at *
  have Z4 : (M.bytesOf [th, 0, 0, 0, 0, num]).size ≤ 6 := Nat.le_refl _
  have HR3 := hide (fun W => tail_run W th num)
  generalize M.bytesOf [th, 0, 0, 0, 0, num] = T4 at *
  have p23 : ¬ 9223372036854775807 < (numT v0).size + (numT v1).size := by rw [numT_size, numT_size]; omega
  go_enter Tryz.func105, Tryz.ntmps105
  go_wp2_with fail
  clear hr1
  have HB0 : Hid (Below (w.heap.size + 1) (w.alloc (.cells #[.int .i64 pg, .int .i64 num, .int .i64 kp, .int .i64 ph, .int .i64 tr, .int .i64 s0, .int .i64 v0, .int .i64 s1, .int .i64 v1, .int .i64 th] 133)) ((w.alloc (.cells #[.int .i64 pg, .int .i64 num, .int .i64 kp, .int .i64 ph, .int .i64 tr, .int .i64 s0, .int .i64 v0, .int .i64 s1, .int .i64 v1, .int .i64 th] 133)).alloc (.cells #[.int .u8 (num : Int), .int .u8 (kp : Int), .int .u8 (ph : Int), .int .u8 (tr : Int), .int .u8 (s0 : Int), .int .u8 (s1 : Int)] 5))) := (Below.refl _ _).alloc (by simp) _
  have hz0 : w.heap.size + 1 ≤ ((w.alloc (.cells #[.int .i64 pg, .int .i64 num, .int .i64 kp, .int .i64 ph, .int .i64 tr, .int .i64 s0, .int .i64 v0, .int .i64 s1, .int .i64 v1, .int .i64 th] 133)).alloc (.cells #[.int .u8 (num : Int), .int .u8 (kp : Int), .int .u8 (ph : Int), .int .u8 (tr : Int), .int .u8 (s0 : Int), .int .u8 (s1 : Int)] 5)).heap.size := by simp
  generalize ((w.alloc (.cells #[.int .i64 pg, .int .i64 num, .int .i64 kp, .int .i64 ph, .int .i64 tr, .int .i64 s0, .int .i64 v0, .int .i64 s1, .int .i64 v1, .int .i64 th] 133)).alloc (.cells #[.int .u8 (num : Int), .int .u8 (kp : Int), .int .u8 (ph : Int), .int .u8 (tr : Int), .int .u8 (s0 : Int), .int .u8 (s1 : Int)] 5)) = W at *
  have c6 : W.cell? ⟨w.heap.size, 6, none⟩ = some (.int .i64 v0) := box_cell (unhide HB0) 6
  have c8 : W.cell? ⟨w.heap.size, 8, none⟩ = some (.int .i64 v1) := box_cell (unhide HB0) 8
  go_region_held3 (fun X => X.cell? ⟨w.heap.size, 6, none⟩ = some (.int .i64 v0) ∧ X.cell? ⟨w.heap.size, 8, none⟩ = some (.int .i64 v1)) (first | go_keep | exact ⟨box_cell hbN 6, box_cell hbN 8⟩) ((go_at_call 131; refine (numText_cum _ _ (by omega) (by omega) (by first | exact hzN | exact hz0) (by first | exact hbN | exact (unhide HB0).drew)).mono ?_; rintro e wN ⟨rfl, hbN, hzN⟩))
  have c1 : wN.cell? ⟨w.heap.size, 1, none⟩ = some (.int .i64 num) := box_cell hbN 1
  have c9 : wN.cell? ⟨w.heap.size, 9, none⟩ = some (.int .i64 th) := box_cell hbN 9
  have hr3 := unhide HR3 wN
  have HBN := hide (one_alloc hbN)
  have HZN := hide hzN
  have hE2 : T1 ++ (numT v0 ++ numT v1) ++ T4 = recP num kp ph tr s0 v0 s1 v1 th := HE.out
  have HE2 := hide hE2
  have Z5 : (numT v0 ++ numT v1).size = 4 := by rw [ByteArray.size_append, numT_size, numT_size]
  have Z6 := Nat.le_of_eq Z5
  generalize numT v0 ++ numT v1 = T5 at *
  have p1 : ¬ 9223372036854775807 < T1.size + T5.size := by omega
  have p2 : ¬ 9223372036854775807 < T1.size + T5.size + T4.size := by omega
  clear hE2 Z5 HE p23 hbN hzN c6 c8 HR3 HB0 hz0
  go_wp2
  go_ret
  exact ⟨ret_string HE2.out, (unhide HBN).alloc (by have := HZN.out; omega) _⟩
end Go.Proofs.YtjfmiomopfjecabGreat

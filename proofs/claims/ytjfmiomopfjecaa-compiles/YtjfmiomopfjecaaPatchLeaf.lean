/- The small functions of patches: a part of a text, rows of bytes as texts, the steps of a patch. -/
import Derived.Test.YtjfmiomopfjecaaNodeLeaf
import Derived.Test.YtjfmiomopfjecaaNetOwn
import Derived.Test.YtjfmiomopfjecaaPatchMath
import Derived.Lib.AppendStr
namespace Go.Proofs.Ytjfmiomopfjecaa
open Go.RowKit Go.Lib

theorem ret_part {a b : ByteArray} {c d : Bool} (h1 : a = b) (h2 : c = d) : Ending.returned (.tuple #[.string a, .bool c]) = .returned (.tuple #[.string b, .bool d]) := by rw [h1, h2]

theorem part_yes (s : ByteArray) (a n : Nat) (w : World) (hs : s.size ≤ 2000000) (h : a + n ≤ s.size) :
    Calls Try.prog 97 #[.string s, .int .i64 a, .int .i64 n] w fun e w' => e = .returned (.tuple #[.string (M.mk n fun j => M.bz s (a + j)), .bool true]) ∧ w = w' := by
  have HE := hide (M.extract_mk s a n h)
  have h1 : ¬ (s.size : Int) < (a : Int) := by omega
  have h3 : ¬ (s.size : Int) - (a : Int) < (n : Int) := by omega
  have h2 : ((a : Int) + (n : Int)).toNat = a + n := by omega
  go_enter Try.func97, Try.ntmps97
  go_wp2
  go_ret2
  exact ⟨ret_part HE.out rfl, rfl⟩
theorem part_no (s : ByteArray) (a n : Nat) (w : World) (_hs : s.size ≤ 2000000) (_ha : a ≤ 4000000) (hn : n ≤ 4000000) (h : s.size < a + n) :
    Calls Try.prog 97 #[.string s, .int .i64 a, .int .i64 n] w fun e w' => e = .returned (.tuple #[.string ⟨#[]⟩, .bool false]) ∧ w = w' := by
  by_cases h0 : s.size < a
  · have h1 : (s.size : Int) < (a : Int) := by omega
    go_enter Try.func97, Try.ntmps97
    go_wp2
    go_ret2
    exact ⟨rfl, rfl⟩
  · have h1 : ¬ (s.size : Int) < (a : Int) := by omega
    have h2 : (s.size : Int) - (a : Int) < (n : Int) := by omega
    go_enter Try.func97, Try.ntmps97
    go_wp2
    go_ret2
    exact ⟨rfl, rfl⟩
theorem taken_yes (s : ByteArray) (a n : Nat) (w : World) (hs : s.size ≤ 2000000) (h : a + n ≤ s.size) :
    Calls Try.prog 95 #[.string s, .int .i64 a, .int .i64 n] w fun e w' => e = .returned (.tuple #[.string (M.mk n fun j => M.bz s (a + j)), .bool true]) ∧ w = w' := by
  have HE := hide (M.extract_mk s a n h)
  have h1 : ¬ (s.size : Int) < (a : Int) + (n : Int) := by omega
  have h2 : ((a : Int) + (n : Int)).toNat = a + n := by omega
  go_enter Try.func95, Try.ntmps95
  go_wp2
  go_ret2
  exact ⟨ret_part HE.out rfl, rfl⟩
theorem taken_no (s : ByteArray) (a n : Int) (w : World) (hs : s.size ≤ 2000000) (ha : -1 ≤ a) (ha' : a ≤ 4000000) (hn : -1 ≤ n) (hn' : n ≤ 4000000) (h : a < 0 ∨ n < 0 ∨ (s.size : Int) < a + n) :
    Calls Try.prog 95 #[.string s, .int .i64 a, .int .i64 n] w fun e w' => e = .returned (.tuple #[.string ⟨#[]⟩, .bool false]) ∧ w = w' := by
  by_cases h1 : a < 0
  · clear h
    go_enter Try.func95, Try.ntmps95
    go_wp2
    go_ret2
    exact ⟨rfl, rfl⟩
  · by_cases h2 : n < 0
    · clear h
      go_enter Try.func95, Try.ntmps95
      go_wp2
      go_ret2
      exact ⟨rfl, rfl⟩
    · have h3 : (s.size : Int) < a + n := by omega
      clear h
      go_enter Try.func95, Try.ntmps95
      go_wp2
      go_ret2
      exact ⟨rfl, rfl⟩

/- rows of bytes -/
theorem strCells_append (a b : ByteArray) : strCells (a ++ b) = strCells a ++ strCells b := by
  unfold strCells
  rw [ByteArray.data_append, Array.toList_append, List.map_append]
theorem row_text (w : World) (v : Value) (base : Nat) (o : ByteArray) (h : w.ownsRow base 5 1 v o.size (strCells o)) :
    (convert 63 9 v).run Try.prog w = .ok (.string o) w := by
  have hc := fun g => h.cells (g := g)
  rcases h.2 with ⟨rfl, hn⟩ | ⟨g, cap, cur, rfl, hb, hg, h1, h2, h3, h4⟩
  · have : o = ⟨#[]⟩ := M.bz_ext (by rw [hn]; rfl) (fun j hj => by omega)
    subst this
    rw [run_convert_bytes_string _ 63 9 5 _ 0 0 Try.underlying63 Try.underlying5 Try.underlying9]
    rfl
  · have e : strCells o = (o.data.toList.map fun b => (b.toNat : Int)).map (Value.int .u8) := by
      unfold strCells; rw [List.map_map]; rfl
    have hl : (loadCells ⟨g, 0, none⟩ o.size).run Try.prog w = .ok ((o.data.toList.map fun b => (b.toNat : Int)).map (Value.int .u8)).toArray w := by
      have h5 := run_loadCells_list (P := Try.prog) (w := w) ⟨g, 0, none⟩ (strCells o) (hc g rfl)
      rw [strCells_length, e] at h5
      exact h5
    rw [run_convert_bytes_string _ 63 9 5 _ _ _ Try.underlying63 Try.underlying5 Try.underlying9, run_bytesToString _ _ _ _ _ hl]
    have e2 : ∀ (l : List UInt8) (r : ByteArray), (l.map fun b => (b.toNat : Int)).foldl (fun r n => r.push (UInt8.ofNat n.toNat)) r = ⟨(r.data.toList ++ l).toArray⟩ := by
      intro l
      induction l with
      | nil => intro r; simp
      | cons x l ih => intro r; rw [List.map_cons, List.foldl_cons, ih]; simp [ByteArray.push]
    rw [e2]
    rfl

theorem infoB : (Try.prog.info? 5).map (fun i => (i.zero, i.size, i.bytes)) = some (some (.int .u8 0), 1, 1) := by kernel_rfl
theorem append_text {ops : Array Oper} {rest : List Oper} {o : Oper} {a : Act} {Q : Exit → Act → World → Prop} (w : World) (hgd : o.guard = none) (s x : Operand)
    (ho : o.op = .call { callee := .builtin .append, args := #[s, x], argTypes := #[63, 9] })
    (base : Nat) (v : Value) (l t : ByteArray) (hs : a.eval s = v) (hx : a.eval x = .string t)
    (hown : w.ownsRow base 5 1 v l.size (strCells l)) (hn : l.size + t.size ≤ 1000000000) (hbase : base ≤ w.heap.size)
    (h : ∀ v' w', w'.ownsRow base 5 1 v' (l ++ t).size (strCells (l ++ t)) → (∀ w0, Below base w0 w → Below base w0 w') → w.heap.size ≤ w'.heap.size → wpList Try.prog ops Q rest (a.put o.dst v') w') :
    wpList Try.prog ops Q (o :: rest) a w := by
  obtain ⟨i0, hi, hz0, hz1, hz2⟩ := info_parts infoB
  refine wpList_append_own_string w hgd s x 63 9 ho base 5 i0 Try.underlying63 Try.underlying9 hi hz0 hz1 hz2 v l.size (strCells l) hs hown t hx (by unfold maxLen; omega) (by omega) hbase ?_
  intro v' w' hown' hgrow _
  refine h v' w' ?_ (fun w0 hb0 => hb0.grown hgrow hbase (fun k hk => (hown.lt k hk).1)) hgrow.size
  rw [ByteArray.size_append, strCells_append]
  exact hown'
theorem byte_cells {y : Nat} (hy : y < 256) : strCells (M.bytesOf [y]) = [.int .u8 (y : Int)] := by
  show [Value.int .u8 ((UInt8.ofNat y).toNat : Int)] = _
  rw [UInt8.toNat_ofNat', Nat.mod_eq_of_lt (by omega)]
theorem append_byte {ops : Array Oper} {rest : List Oper} {o : Oper} {a : Act} {Q : Exit → Act → World → Prop} (W : World) (hgd : o.guard = none) (s x : Operand)
    (ho : o.op = .call { callee := .builtin .append, args := #[s, x], argTypes := #[63, 63] })
    (base : Nat) (v : Value) (l : ByteArray) (y g : Nat) (hy : y < 256) (hs : a.eval s = v) (hx : a.eval x = .slice (some ⟨g, 0, none⟩) 1 1) (hc : W.cell? ⟨g, 0, none⟩ = some (.int .u8 (y : Int)))
    (hown : W.ownsRow base 5 1 v l.size (strCells l)) (hn : l.size + 1 ≤ 1000000) (hbase : base ≤ W.heap.size)
    (h : ∀ v' w', w'.ownsRow base 5 1 v' (l ++ M.bytesOf [y]).size (strCells (l ++ M.bytesOf [y])) → (∀ w0, Below base w0 W → Below base w0 w') → W.heap.size ≤ w'.heap.size → wpList Try.prog ops Q rest (a.put o.dst v') w') :
    wpList Try.prog ops Q (o :: rest) a W := by
  obtain ⟨i0, hi, hz0, hz1, hz2⟩ := info_parts infoB
  refine wpList_append_own W hgd s x 63 ho base 5 i0 (.int .u8 0) 1 1 Try.underlying63 hi hz0 hz1 hz2 rfl (by decide) v l.size (strCells l) hs hown ⟨g, 0, none⟩ 1 1 [.int .u8 (y : Int)] hx rfl ?_ ?_ (by unfold maxLen; omega) (by omega) hbase ?_
  · intro j u hj
    match j, hj with
    | 0, hj => simp at hj; subst hj; rw [add_at]; exact hc
  · intro u hu; simp at hu; subst hu; rfl
  · intro v' w' hown' hgrow _
    refine h v' w' ?_ (fun w0 hb0 => hb0.grown hgrow hbase (fun k hk => (hown.lt k hk).1)) hgrow.size
    rw [ByteArray.size_append, strCells_append, byte_cells hy]
    exact hown'

theorem repeated_any (x n : Nat) (w : World) (hn : n ≤ 255) :
    Calls Try.prog 110 #[.string (M.bytesOf [x]), .int .i64 n] w fun e w' => e = .returned (.string (M.mk n fun _ => x)) ∧ Below w.heap.size w w' := by
  have HX := hide (show (M.bytesOf [x]).size = 1 from rfl)
  have HST := hide (fun k => M.mk_succ k fun _ => x)
  generalize M.bytesOf [x] = t at *
  go_enter Try.func110, Try.ntmps110
  go_wp2_with fail
  go_loopw [5, 6] (fun v i wr => ∃ (k : Nat) (o : ByteArray), k ≤ n ∧ i = .int .i64 k ∧ Hid (o = M.mk k fun _ => x) ∧ wr.ownsRow w.heap.size 5 1 v o.size (strCells o) ∧ Below w.heap.size w wr) (fun _ i _ => n - (intOf i).toNat)
  case atStart => exact ⟨0, ⟨#[]⟩, by omega, rfl, rfl, World.ownsRow_nil _ _ _ _, Below.refl _ _⟩
  case round =>
    obtain ⟨k, o, hk, rfl, ho, hown, hbel⟩ := hrel
    have hsz := hbel.size
    have HZ : Hid (o.size = k) := by rw [ho.out, M.mk_size]; rfl
    by_cases hlt : k < n
    · have HO := hide hown
      have HB := hide hbel
      have HS : Hid (o ++ t = M.mk (k + 1) fun _ => x) := by rw [HST.out k, ← ho.out]; rfl
      clear hown hbel
      go_wp2_with (at_builtin; (refine append_text _ rfl (.tmp 12) (.tmp 13) rfl w.heap.size u5 o t rfl rfl (unhide HO) (by rw [HX.out, HZ.out]; omega) hsz ?_); intro v' w1 hown1 hbel1 hsz1)
      have HR := hide hown1
      have HB1 := hide (hbel1 _ (unhide HB))
      clear hown1 hbel1
      go_roundw
      case rel => exact ⟨k + 1, _, by omega, by go_num, HS, unhide HR, unhide HB1⟩
      case measure => simp [intOf]; omega
    · have hkn : k = n := by omega
      subst hkn
      have hr := row_text _ _ _ _ hown
      have HB := hide hbel
      clear hown hbel
      go_wp2
      go_ret
      exact ⟨ret_string ho.out, unhide HB⟩
end Go.Proofs.Ytjfmiomopfjecaa

/- Texts laid together: SumWalks, NetLeaf, NetRows, NetFits, NetOwn, NetCode1, NetRef. -/
import Derived.Test.YtjfmiomopfjecabGreatRows
import Derived.Test.YtjfmiomopfjecabGreatWa
import Derived.WalkKit
import Derived.WalkSpells
import Derived.WalkLawsBesides
import Derived.Laws.BytesString
import Derived.Laws.OwnMore
import Derived.Laws.ResultCell
import Derived.Deep.RegionHeld3
import Derived.Deep.QuietTactic
import Derived.BigQuiet
/- The walks of the sum: sum.eightTimes, sum.Of, slots.Sum, slotsref.Sum. -/
namespace Go.Proofs.YtjfmiomopfjecabGreat
open Go.RowKit

theorem hide {p : Prop} (h : p) : Hid p := h
theorem unhide {p : Prop} (h : Hid p) : p := h.out
theorem ret_int {k : IntKind} {a b : Int} (h : a = b) : Ending.returned (.int k a) = .returned (.int k b) := by rw [h]

set_option maxHeartbeats 400000 in
theorem eightTimes_any (n : Nat) (w : World) (h1 : n < 65536) :
    Calls Tryz.prog 197 #[.int .i64 n] w fun e w' => e = .returned (.int .i64 (M.crcs 8 n)) ∧ w = w' := by
  go_enter Tryz.func197, Tryz.ntmps197
  go_wp2
  go_loop [0, 3, 4] (fun v k _ => ∃ j x : Nat, j ≤ 8 ∧ k = .int .i64 j ∧ v = .int .i64 x ∧ Hid (x = M.crcs j n) ∧ x < 65536) (fun _ k _ => 8 - (intOf k).toNat)
  case atStart => exact ⟨0, n, by omega, rfl, rfl, rfl, h1⟩
  case round =>
    obtain ⟨j, x, hj, rfl, rfl, hx, hx1⟩ := hrel
    by_cases hlt : j < 8
    · have hl := M.crcBit_lt hx1
      have HC : Hid (M.crcBit x = M.crcs (j + 1) n) := by rw [hx.out]; rfl
      by_cases hg : 32768 ≤ x
      · have HE : Hid (((M.crcBit x : Nat) : Int) = bits BinOp.xor IntKind.i64 (x * 2 % 65536) 4129) := by
          have e := M.xor_i64 (x * 2 % 65536) 4129 (by omega) (by omega)
          have e2 : M.crcBit x = (x * 2 % 65536) ^^^ 4129 := if_pos hg
          rw [e2, ← e]; rfl
        have hg' : (32768 : Int) ≤ (x : Int) := by omega
        have HL : Hid (M.crcBit x < 65536) := hl
        clear hg hl
        go_wp2
        go_round
        case rel => exact ⟨j + 1, M.crcBit x, by omega, by go_num, by rw [HE.out], HC, HL⟩
        case measure => simp [intOf]; omega
      · have HE : Hid (((M.crcBit x : Nat) : Int) = (x * 2 % 65536)) := by
          have e2 : M.crcBit x = x * 2 % 65536 := if_neg hg
          rw [e2]; rfl
        have hg' : ¬ (32768 : Int) ≤ (x : Int) := by omega
        have HL : Hid (M.crcBit x < 65536) := hl
        clear hg hl
        go_wp2
        go_round
        case rel => exact ⟨j + 1, M.crcBit x, by omega, by go_num, by rw [HE.out], HC, HL⟩
        case measure => simp [intOf]; omega
    · go_wp2
      go_ret
      have : j = 8 := by omega
      subst this
      exact ⟨ret_int (by rw [hx.out]), rfl⟩

set_option maxHeartbeats 400000 in
theorem sumOf_any (s : ByteArray) (w : World) (hs : s.size ≤ maxLen) :
    Calls Tryz.prog 187 #[.string s] w fun e w' => e = .returned (.int .i64 (M.crc s.data.toList)) ∧ w = w' := by
  unfold maxLen at hs
  go_enter Tryz.func187, Tryz.ntmps187
  go_wp2
  go_loop [3, 4] (fun v k => ∃ j x : Nat, j ≤ s.size ∧ k = .int .i64 j ∧ v = .int .i64 x ∧ Hid (x = M.crc (s.data.toList.take j)) ∧ x < 65536) (fun _ k => s.size - (intOf k).toNat)
  case atStart => exact ⟨0, 65535, by omega, rfl, rfl, rfl, by omega⟩
  case round =>
    obtain ⟨j, x, hj, rfl, rfl, hx, hx1⟩ := hrel
    by_cases hlt : j < s.size
    · have hb : s[j].toNat < 256 := s[j].toNat_lt
      have hm := M.mix_lt hx1 hb
      have HE : Hid (bits BinOp.xor IntKind.i64 (x : Int) ((s[j].toNat : Int) * 256) = ((x ^^^ s[j].toNat * 256 : Nat) : Int)) := by
        have e := M.xor_i64 x (s[j].toNat * 256) (by omega) (by omega)
        rw [← e]; rfl
      have HC : Hid (M.crcs 8 (x ^^^ s[j].toNat * 256) = M.crc (s.data.toList.take (j + 1))) := by
        have e : s.data.toList.take (j + 1) = s.data.toList.take j ++ [s[j]] := by
          rw [List.take_succ_eq_append_getElem (by simpa using hlt)]; rfl
        rw [e, M.crc_snoc, ← hx.out]; rfl
      have hl := M.crcs_lt hm 8
      go_wp2_with fail
      rw [HE.out]
      refine (eightTimes_any _ _ hm).mono ?_
      rintro e w' ⟨rfl, rfl⟩
      go_wp2
      go_round
      case rel => exact ⟨j + 1, _, by omega, by go_num, rfl, HC, hl⟩
      case measure => simp [intOf]; omega
    · go_wp2
      go_ret
      have : j = s.size := by omega
      subst this
      exact ⟨ret_int (by rw [hx.out, List.take_of_length_le (by simp)]), rfl⟩

end Go.Proofs.YtjfmiomopfjecabGreat

/- The walks of the small functions of nets: those that reckon, and those that read a text or a list. -/
namespace Go.Proofs.YtjfmiomopfjecabGreat
open Go.RowKit

theorem ret_string {a b : ByteArray} (h : a = b) : Ending.returned (.string a) = .returned (.string b) := by rw [h]
theorem ret_bool {a b : Bool} (h : a = b) : Ending.returned (.bool a) = .returned (.bool b) := by rw [h]

theorem add_at (b j : Nat) : (⟨b, 0, none⟩ : Addr).add j = ⟨b, j, none⟩ := by
  unfold Addr.add
  split <;> simp_all

/-- the conversion of a new row of bytes into a text -/
theorem text_run (w : World) (ns : List Int) (n : Nat) (hn : ns.length = n) :
    (convert 79 9 (.slice (some ⟨w.heap.size, 0, none⟩) n n)).run Tryz.prog (w.alloc (.cells (ns.map (Value.int .u8)).toArray 5)) =
      .ok (.string ⟨(ns.map fun n => UInt8.ofNat n.toNat).toArray⟩) (w.alloc (.cells (ns.map (Value.int .u8)).toArray 5)) := by
  have hl : (loadCells ⟨w.heap.size, 0, none⟩ n).run Tryz.prog (w.alloc (.cells (ns.map (Value.int .u8)).toArray 5)) = .ok (ns.map (Value.int .u8)).toArray (w.alloc (.cells (ns.map (Value.int .u8)).toArray 5)) := by
    have h := run_loadCells_list (P := Tryz.prog) (w := w.alloc (.cells (ns.map (Value.int .u8)).toArray 5)) ⟨w.heap.size, 0, none⟩ (ns.map (Value.int .u8)) (by
      intro j v hj
      rw [add_at, World.cell?_alloc_at _ _ _ _ rfl]
      simpa using hj)
    rw [List.length_map, hn] at h
    exact h
  rw [run_convert_bytes_string _ 79 9 5 _ n n Tryz.underlying79 Tryz.underlying5 Tryz.underlying9, run_bytesToString _ _ n n ns hl]
  have e : ∀ (l : List Int) (r : ByteArray), l.foldl (fun r n => r.push (UInt8.ofNat n.toNat)) r = ⟨(r.data.toList ++ l.map fun n => UInt8.ofNat n.toNat).toArray⟩ := by
    intro l
    induction l with
    | nil => intro r; simp
    | cons x l ih => intro r; rw [List.foldl_cons, ih]; simp [ByteArray.push]
  rw [e]
  rfl

/-- a value as two bytes -/
theorem word_run (w : World) (v : Int) :
    (convert 79 9 (.slice (some ⟨w.heap.size, 0, none⟩) 2 2)).run Tryz.prog (w.alloc (.cells #[.int .u8 (M.unword v / 256), .int .u8 (M.unword v % 256)] 5)) =
      .ok (.string (M.wordText v)) (w.alloc (.cells #[.int .u8 (M.unword v / 256), .int .u8 (M.unword v % 256)] 5)) := text_run w [M.unword v / 256, M.unword v % 256] 2 rfl

theorem ret_pair {a b c d : Int} (h1 : a = b) (h2 : c = d) : Ending.returned (.tuple #[.int .i64 a, .int .i64 c]) = .returned (.tuple #[.int .i64 b, .int .i64 d]) := by rw [h1, h2]
theorem wordSplit_any (v : Int) (w : World) (h : M.IsVal v) :
    Calls Tryz.prog 156 #[.int .i64 v] w fun e w' => e = .returned (.tuple #[.int .i64 (M.unword v / 256), .int .i64 (M.unword v % 256)]) ∧ w = w' := by
  unfold M.IsVal at h
  by_cases hn : v < 0
  · have e := hide (show M.unword v = v + 65536 from if_pos hn)
    go_enter Tryz.func156, Tryz.ntmps156
    go_wp2
    go_ret2
    exact ⟨ret_pair (by rw [e.out]) (by rw [e.out]), rfl⟩
  · have e := hide (show M.unword v = v from if_neg hn)
    go_enter Tryz.func156, Tryz.ntmps156
    go_wp2
    go_ret2
    exact ⟨ret_pair (by rw [e.out]) (by rw [e.out]), rfl⟩
theorem wordText_any (v : Int) (w : World) (h : M.IsVal v) :
    Calls Tryz.prog 131 #[.int .i64 v] w fun e w' => e = .returned (.string (M.wordText v)) ∧ Below w.heap.size w w' := by
  have hr := word_run w v
  have hb := M.unword_bd h
  have h1 : 0 ≤ M.unword v / 256 ∧ M.unword v / 256 < 256 := by omega
  have h2 : 0 ≤ M.unword v % 256 ∧ M.unword v % 256 < 256 := by omega
  obtain ⟨h1a, h1b⟩ := h1
  obtain ⟨h2a, h2b⟩ := h2
  clear hb
  go_enter Tryz.func131, Tryz.ntmps131
  go_wp2_with fail
  refine (wordSplit_any v _ h).mono ?_
  rintro e w' ⟨rfl, rfl⟩
  generalize M.unword v / 256 = x at *
  generalize M.unword v % 256 = y at *
  go_wp2
  go_ret
  exact ⟨rfl, (Below.refl _ _).alloc (Nat.le_refl _) _⟩

theorem refBytes_any (v : Int) (w : World) (h : M.IsVal v) :
    Calls Tryz.prog 87 #[.int .i64 v] w fun e w' => e = .returned (.string (M.wordText v)) ∧ Below w.heap.size w w' := by
  have hr := word_run w v
  unfold M.IsVal at h
  by_cases hn : v < 0
  · have e : M.unword v = v + 65536 := if_pos hn
    rw [e] at hr
    go_enter Tryz.func87, Tryz.ntmps87
    go_wp2
    go_ret
    exact ⟨rfl, (Below.refl _ _).alloc (Nat.le_refl _) _⟩
  · have e : M.unword v = v := if_neg hn
    rw [e] at hr
    go_enter Tryz.func87, Tryz.ntmps87
    go_wp2
    go_ret
    exact ⟨rfl, (Below.refl _ _).alloc (Nat.le_refl _) _⟩

/- bytes of a text -/
theorem wordByte_any (s : ByteArray) (i : Int) (w : World) (_hs : s.size ≤ maxLen) (h0 : 0 ≤ i) :
    Calls Tryz.prog 100 #[.string s, .int .i64 i] w fun e w' => e = .returned (.int .i64 (M.bz s i.toNat)) ∧ w = w' := by
  unfold maxLen at _hs
  obtain ⟨n, rfl⟩ := Int.eq_ofNat_of_zero_le h0
  rw [Int.toNat_natCast]
  by_cases hn : n < s.size
  · have hb := M.bz_at s n hn
    have hb2 : s[n].toNat < 256 := s[n].toNat_lt
    have HB := hide hb
    clear hb
    go_enter Tryz.func100, Tryz.ntmps100
    go_wp2
    go_ret
    exact ⟨ret_int (by rw [HB.out]), rfl⟩
  · have hb := hide (M.bz_out s n (by omega))
    go_enter Tryz.func100, Tryz.ntmps100
    go_wp2
    go_ret
    exact ⟨ret_int (by rw [hb.out]; rfl), rfl⟩
def refNum (s : ByteArray) (i : Nat) : Int := if i < s.size then M.bz s i else -1
theorem refNum_in {s : ByteArray} {i : Nat} (h : i < s.size) : refNum s i = M.bz s i := if_pos h
theorem refNum_bd (s : ByteArray) (i : Nat) : -1 ≤ refNum s i ∧ refNum s i ≤ 255 := by
  have := M.bz_lt s i
  unfold refNum
  split <;> omega
theorem refNumber_any (s : ByteArray) (i : Int) (w : World) (_hs : s.size ≤ maxLen) (h0 : 0 ≤ i) :
    Calls Tryz.prog 117 #[.string s, .int .i64 i] w fun e w' => e = .returned (.int .i64 (refNum s i.toNat)) ∧ w = w' := by
  unfold maxLen at _hs
  obtain ⟨n, rfl⟩ := Int.eq_ofNat_of_zero_le h0
  rw [Int.toNat_natCast]
  by_cases hn : n < s.size
  · have hb := M.bz_at s n hn
    have hb2 : s[n].toNat < 256 := s[n].toNat_lt
    have HB := hide hb
    have HN := hide (refNum_in hn)
    clear hb
    go_enter Tryz.func117, Tryz.ntmps117
    go_wp2
    go_ret
    exact ⟨ret_int (by rw [HN.out, HB.out]), rfl⟩
  · have HN : Hid (refNum s n = -1) := if_neg hn
    go_enter Tryz.func117, Tryz.ntmps117
    go_wp2
    go_ret
    exact ⟨ret_int (by rw [HN.out]), rfl⟩
theorem refNumber_in (s : ByteArray) (i : Int) (w : World) (hs : s.size ≤ maxLen) (h0 : 0 ≤ i) (h1 : i < s.size) :
    Calls Tryz.prog 117 #[.string s, .int .i64 i] w fun e w' => e = .returned (.int .i64 (M.bz s i.toNat)) ∧ w = w' := by
  have h := refNumber_any s i w hs h0
  rw [refNum_in (by omega)] at h
  exact h

/- words as values -/
theorem wordValue_any (a b : Int) (w : World) (ha : 0 ≤ a) (ha' : a < 256) (hb : 0 ≤ b) (hb' : b < 256) :
    Calls Tryz.prog 190 #[.int .i64 a, .int .i64 b] w fun e w' => e = .returned (.int .i64 (M.wordVal (a * 256 + b))) ∧ w = w' := by
  by_cases h : 32767 < a * 256 + b
  · have HE : Hid (M.wordVal (a * 256 + b) = a * 256 + b - 65536) := if_pos h
    go_enter Tryz.func190, Tryz.ntmps190
    go_wp2
    go_ret
    exact ⟨ret_int HE.out.symm, rfl⟩
  · have HE : Hid (M.wordVal (a * 256 + b) = a * 256 + b) := if_neg h
    go_enter Tryz.func190, Tryz.ntmps190
    go_wp2
    go_ret
    exact ⟨ret_int HE.out.symm, rfl⟩
theorem refSigned_any (v : Int) (w : World) (h0 : 0 ≤ v) (h1 : v < 65536) :
    Calls Tryz.prog 146 #[.int .i64 v] w fun e w' => e = .returned (.int .i64 (M.wordVal v)) ∧ w = w' := by
  by_cases h : 32767 < v
  · have HE : Hid (M.wordVal v = v - 65536) := if_pos h
    go_enter Tryz.func146, Tryz.ntmps146
    go_wp2
    go_ret
    exact ⟨ret_int HE.out.symm, rfl⟩
  · have HE : Hid (M.wordVal v = v) := if_neg h
    go_enter Tryz.func146, Tryz.ntmps146
    go_wp2
    go_ret
    exact ⟨ret_int HE.out.symm, rfl⟩
theorem wordClip_any (v : Int) (w : World) :
    Calls Tryz.prog 198 #[.int .i64 v] w fun e w' => e = .returned (.int .i64 (M.clip v)) ∧ w = w' := by
  have HE := hide (show M.clip v = if v < -32768 then -32768 else if 32767 < v then 32767 else v from rfl)
  go_enter Tryz.func198, Tryz.ntmps198
  go_wp2
  all_goals go_ret
  all_goals refine ⟨ret_int ?_, rfl⟩
  all_goals rw [HE.out]
  all_goals repeat' split
  all_goals omega
theorem refClipped_any (v : Int) (w : World) :
    Calls Tryz.prog 179 #[.int .i64 v] w fun e w' => e = .returned (.int .i64 (M.clip v)) ∧ w = w' := by
  have HE := hide (show M.clip v = if v < -32768 then -32768 else if 32767 < v then 32767 else v from rfl)
  go_enter Tryz.func179, Tryz.ntmps179
  go_wp2
  all_goals go_ret
  all_goals refine ⟨ret_int ?_, rfl⟩
  all_goals rw [HE.out]
  all_goals repeat' split
  all_goals omega
theorem nodeGreater_any (a b : Int) (w : World) :
    Calls Tryz.prog 192 #[.int .i64 a, .int .i64 b] w fun e w' => e = .returned (.int .i64 (M.mx a b)) ∧ w = w' := by
  by_cases h : b < a
  · have HE := hide (show M.mx a b = a from if_pos h)
    go_enter Tryz.func192, Tryz.ntmps192
    go_wp2
    go_ret
    exact ⟨ret_int HE.out.symm, rfl⟩
  · have HE := hide (show M.mx a b = b from if_neg h)
    go_enter Tryz.func192, Tryz.ntmps192
    go_wp2
    go_ret
    exact ⟨ret_int HE.out.symm, rfl⟩
theorem nodeLesser_any (a b : Int) (w : World) :
    Calls Tryz.prog 199 #[.int .i64 a, .int .i64 b] w fun e w' => e = .returned (.int .i64 (M.mn a b)) ∧ w = w' := by
  by_cases h : a < b
  · have HE := hide (show M.mn a b = a from if_pos h)
    go_enter Tryz.func199, Tryz.ntmps199
    go_wp2
    go_ret
    exact ⟨ret_int HE.out.symm, rfl⟩
  · have HE := hide (show M.mn a b = b from if_neg h)
    go_enter Tryz.func199, Tryz.ntmps199
    go_wp2
    go_ret
    exact ⟨ret_int HE.out.symm, rfl⟩
theorem refGreater_any (a b : Int) (w : World) :
    Calls Tryz.prog 180 #[.int .i64 a, .int .i64 b] w fun e w' => e = .returned (.int .i64 (M.mx a b)) ∧ w = w' := by
  by_cases h : b < a
  · have HE := hide (show M.mx a b = a from if_pos h)
    go_enter Tryz.func180, Tryz.ntmps180
    go_wp2
    go_ret
    exact ⟨ret_int HE.out.symm, rfl⟩
  · have HE := hide (show M.mx a b = b from if_neg h)
    go_enter Tryz.func180, Tryz.ntmps180
    go_wp2
    go_ret
    exact ⟨ret_int HE.out.symm, rfl⟩
theorem nodeShift_any (a : Int) (b : Nat) (w : World) (_ha : M.IsVal a) (hb : b ≤ 15) :
    Calls Tryz.prog 191 #[.int .i64 a, .int .i64 b] w fun e w' => e = .returned (.int .i64 (a / 2 ^ b)) ∧ w = w' := by
  unfold M.IsVal at _ha
  go_enter Tryz.func191, Tryz.ntmps191
  go_wp2
  go_ret
  exact ⟨rfl, rfl⟩
theorem ofTwo_any (op : Nat) (x y : Int) (a b : Nat) (w : World) (hx : M.IsVal x) (hy : M.IsVal y) (h1 : 1 ≤ op) (h5 : op ≤ 5) :
    Calls Tryz.prog 193 #[.int .i64 op, .int .i64 x, .int .i64 y] w fun e w' => e = .returned (.int .i64 (M.nodeDo op x y a b)) ∧ w = w' := by
  have hm := M.mul_bd hx hy
  unfold M.IsVal at hx hy
  have hop : op = 1 ∨ op = 2 ∨ op = 3 ∨ op = 4 ∨ op = 5 := by omega
  rcases hop with rfl | rfl | rfl | rfl | rfl
  · have HE : Hid (M.nodeDo 1 x y a b = M.clip (x + y)) := rfl
    go_enter Tryz.func193, Tryz.ntmps193
    go_wp2_with fail
    refine (wordClip_any _ _).mono ?_
    rintro e w' ⟨rfl, rfl⟩
    go_wp2
    go_ret
    exact ⟨ret_int HE.out.symm, rfl⟩
  · have HE : Hid (M.nodeDo 2 x y a b = M.clip (x - y)) := rfl
    go_enter Tryz.func193, Tryz.ntmps193
    go_wp2_with fail
    refine (wordClip_any _ _).mono ?_
    rintro e w' ⟨rfl, rfl⟩
    go_wp2
    go_ret
    exact ⟨ret_int HE.out.symm, rfl⟩
  · have HE : Hid (M.nodeDo 3 x y a b = M.clip (x * y)) := rfl
    go_enter Tryz.func193, Tryz.ntmps193
    go_wp2_with fail
    refine (wordClip_any _ _).mono ?_
    rintro e w' ⟨rfl, rfl⟩
    go_wp2
    go_ret
    exact ⟨ret_int HE.out.symm, rfl⟩
  · have HE : Hid (M.nodeDo 4 x y a b = M.mx x y) := rfl
    go_enter Tryz.func193, Tryz.ntmps193
    go_wp2_with fail
    refine (nodeGreater_any _ _ _).mono ?_
    rintro e w' ⟨rfl, rfl⟩
    go_wp2
    go_ret
    exact ⟨ret_int HE.out.symm, rfl⟩
  · have HE : Hid (M.nodeDo 5 x y a b = M.mn x y) := rfl
    go_enter Tryz.func193, Tryz.ntmps193
    go_wp2_with fail
    refine (nodeLesser_any _ _ _).mono ?_
    rintro e w' ⟨rfl, rfl⟩
    go_wp2
    go_ret
    exact ⟨ret_int HE.out.symm, rfl⟩
theorem half_neg (v : Int) (h : v < 0) : (v - 1).tdiv 2 = v / 2 := by
  obtain ⟨n, rfl⟩ : ∃ n : Nat, v = -(n : Int) := ⟨v.natAbs, by omega⟩
  have e : (-(n : Int) - 1) = -((n + 1 : Nat) : Int) := by omega
  rw [e, Int.neg_tdiv, Int.tdiv_eq_ediv_of_nonneg (by omega)]
  omega
theorem over_succ (x : Int) (j : Nat) : x / 2 ^ (j + 1) = x / 2 ^ j / 2 := by
  rw [Int.pow_succ, ← Int.ediv_ediv_of_nonneg (Int.le_of_lt (Int.pow_pos (by omega)))]
theorem refOver_any (x : Int) (b : Nat) (w : World) (hx : M.IsVal x) (hb : b ≤ 255) :
    Calls Tryz.prog 181 #[.int .i64 x, .int .i64 b] w fun e w' => e = .returned (.int .i64 (x / 2 ^ b)) ∧ w = w' := by
  go_enter Tryz.func181, Tryz.ntmps181
  go_wp2
  go_loop [0, 1] (fun v c => ∃ (j : Nat) (y : Int), j ≤ b ∧ c = .int .i64 (b - j : Nat) ∧ v = .int .i64 y ∧ Hid (y = x / 2 ^ j) ∧ -32768 ≤ y ∧ y ≤ 32767) (fun _ c => (intOf c).toNat)
  case atStart => exact ⟨0, x, by omega, rfl, rfl, by show x = _; simp, hx.1, hx.2⟩
  case round =>
    obtain ⟨j, y, hj, rfl, rfl, hy, hy0, hy1⟩ := hrel
    by_cases hlt : j < b
    · have HE : Hid (y / 2 = x / 2 ^ (j + 1)) := by rw [hy.out, over_succ]; rfl
      by_cases hn : y < 0
      · have HH := hide (half_neg y hn)
        go_wp2
        go_round
        case rel => exact ⟨j + 1, y / 2, by omega, by go_num, by rw [HH.out], HE, by omega, by omega⟩
        case measure => simp [intOf]; omega
      · go_wp2
        go_round
        case rel => exact ⟨j + 1, y / 2, by omega, by go_num, rfl, HE, by omega, by omega⟩
        case measure => simp [intOf]; omega
    · have : j = b := by omega
      subst this
      go_wp2
      go_ret
      exact ⟨ret_int (by rw [hy.out]), rfl⟩
theorem refDone_any (op : Nat) (x y : Int) (a b : Nat) (w : World) (hx : M.IsVal x) (hy : M.IsVal y) (hop : op ≤ 255) (ha : a < 256) (hb : b < 256) :
    Calls Tryz.prog 148 #[.int .i64 op, .int .i64 x, .int .i64 y, .int .i64 a, .int .i64 b] w fun e w' => e = .returned (.int .i64 (M.nodeDo op x y a b)) ∧ w = w' := by
  have hm := M.mul_bd hx hy
  have hx' := hx
  unfold M.IsVal at hx hy
  have hops : op = 0 ∨ op = 1 ∨ op = 2 ∨ op = 3 ∨ op = 4 ∨ op = 5 ∨ op = 6 ∨ 7 ≤ op := by omega
  rcases hops with rfl | rfl | rfl | rfl | rfl | rfl | rfl | h7
  · have HE : Hid (M.nodeDo 0 x y a b = M.wordVal (256 * (a : Int) + b)) := by
      show M.wordVal ((a : Int) * 256 + b) = _
      rw [Int.mul_comm]
    go_enter Tryz.func148, Tryz.ntmps148
    go_wp2_with fail
    refine (refSigned_any _ _ (by omega) (by omega)).mono ?_
    rintro e w' ⟨rfl, rfl⟩
    go_wp2
    go_ret
    exact ⟨ret_int HE.out.symm, rfl⟩
  · have HE : Hid (M.nodeDo 1 x y a b = M.clip (x + y)) := rfl
    go_enter Tryz.func148, Tryz.ntmps148
    go_wp2_with fail
    refine (refClipped_any _ _).mono ?_
    rintro e w' ⟨rfl, rfl⟩
    go_wp2
    go_ret
    exact ⟨ret_int HE.out.symm, rfl⟩
  · have HE : Hid (M.nodeDo 2 x y a b = M.clip (x - y)) := rfl
    go_enter Tryz.func148, Tryz.ntmps148
    go_wp2_with fail
    refine (refClipped_any _ _).mono ?_
    rintro e w' ⟨rfl, rfl⟩
    go_wp2
    go_ret
    exact ⟨ret_int HE.out.symm, rfl⟩
  · have HE : Hid (M.nodeDo 3 x y a b = M.clip (x * y)) := rfl
    go_enter Tryz.func148, Tryz.ntmps148
    go_wp2_with fail
    refine (refClipped_any _ _).mono ?_
    rintro e w' ⟨rfl, rfl⟩
    go_wp2
    go_ret
    exact ⟨ret_int HE.out.symm, rfl⟩
  · have HE : Hid (M.nodeDo 4 x y a b = M.mx x y) := rfl
    go_enter Tryz.func148, Tryz.ntmps148
    go_wp2_with fail
    refine (refGreater_any _ _ _).mono ?_
    rintro e w' ⟨rfl, rfl⟩
    go_wp2
    go_ret
    exact ⟨ret_int HE.out.symm, rfl⟩
  · have HE : Hid (M.nodeDo 5 x y a b = x + y - M.mx x y) := by
      show M.mn x y = _
      unfold M.mn M.mx
      split <;> split <;> omega
    have hg : -32768 ≤ M.mx x y ∧ M.mx x y ≤ 32767 := by unfold M.mx; split <;> omega
    go_enter Tryz.func148, Tryz.ntmps148
    go_wp2_with fail
    refine (refGreater_any _ _ _).mono ?_
    rintro e w' ⟨rfl, rfl⟩
    generalize M.mx x y = g at *
    go_wp2
    go_ret
    exact ⟨ret_int HE.out.symm, rfl⟩
  · have HE : Hid (M.nodeDo 6 x y a b = x / 2 ^ b) := rfl
    go_enter Tryz.func148, Tryz.ntmps148
    go_wp2_with fail
    refine (refOver_any _ _ _ hx' (by omega)).mono ?_
    rintro e w' ⟨rfl, rfl⟩
    go_wp2
    go_ret
    exact ⟨ret_int HE.out.symm, rfl⟩
  · have HE : Hid (M.nodeDo op x y a b = M.mx x 0) := by
      unfold M.nodeDo
      rw [if_neg (by omega), if_neg (by omega), if_neg (by omega), if_neg (by omega), if_neg (by omega), if_neg (by omega), if_neg (by omega)]
      rfl
    go_enter Tryz.func148, Tryz.ntmps148
    go_wp2_with fail
    refine (refGreater_any _ _ _).mono ?_
    rintro e w' ⟨rfl, rfl⟩
    go_wp2
    go_ret
    exact ⟨ret_int HE.out.symm, rfl⟩
end Go.Proofs.YtjfmiomopfjecabGreat

/- Rows of memory that are read: a slice of n elements whose cells are known; and the walks of the functions that read one value of a list, or take a node. -/
namespace Go.Proofs.YtjfmiomopfjecabGreat
open Go.RowKit

/-- the slice v of n elements is nil and empty, or its cells are xs -/
def HoldsRow (w : World) (v : Value) (n : Nat) (xs : List Value) : Prop :=
  (v = .slice none 0 0 ∧ n = 0) ∨ ∃ g cap, v = .slice (some ⟨g, 0, none⟩) n cap ∧ g < w.heap.size ∧ n ≤ cap ∧ cap ≤ maxLen ∧ ∀ j u, xs[j]? = some u → w.cell? ⟨g, j, none⟩ = some u
theorem HoldsRow.mono {w w' : World} {v : Value} {n : Nat} {xs : List Value} (h : HoldsRow w v n xs) (hb : Below w.heap.size w w') : HoldsRow w' v n xs := by
  rcases h with h | ⟨g, cap, hv, hg, h1, h2, h3⟩
  · exact .inl h
  · exact .inr ⟨g, cap, hv, Nat.lt_of_lt_of_le hg hb.size, h1, h2, fun j u hj => (hb.cell (p := ⟨g, j, none⟩) hg).trans (h3 j u hj)⟩
theorem HoldsRow.len {w : World} {v : Value} {n : Nat} {xs : List Value} (h : HoldsRow w v n xs) : n ≤ maxLen := by
  rcases h with ⟨_, h⟩ | ⟨g, cap, hv, hg, h1, h2, h3⟩
  · subst h; exact Nat.zero_le _
  · exact Nat.le_trans h1 h2
theorem holdsRow_own {w : World} {base : Nat} {e : TypeId} {size : Nat} {v : Value} {n : Nat} {xs : List Value} (h : w.ownsRow base e size v n xs) : HoldsRow w v n xs := by
  rcases h.2 with ⟨hv, hn⟩ | ⟨g, cap, cur, hv, hb, hg, h1, h2, h3, h4⟩
  · exact .inl ⟨hv, hn⟩
  · refine .inr ⟨g, cap, hv, ?_, h1, h2, ?_⟩
    · exact (h.lt g (by rw [hv]; rfl)).2
    · intro j u hj
      have := h.cells (g := g) (by rw [hv]; rfl) j u hj
      rwa [add_at] at this
theorem Below.grownNone {w w' : World} (h : Below w.heap.size w w') : w.grownBy w' none := ⟨h.os, h.tape, h.output, h.size, fun k hk _ => h.block k hk⟩
theorem ownsRow_below {w w' : World} {base : Nat} {e : TypeId} {size : Nat} {v : Value} {n : Nat} {xs : List Value} (h : w.ownsRow base e size v n xs) (hb : Below w.heap.size w w') : w'.ownsRow base e size v n xs :=
  h.kept (Below.grownNone hb) (by cases hv : v.ownBlock <;> simp)
/-- memory that is new and that a row owns, written or grown: what was there stays -/
theorem below_own {w0 w w' : World} {base : Nat} {e : TypeId} {size : Nat} {v : Value} {n : Nat} {xs : List Value} (hb : Below base w0 w) (h : w.ownsRow base e size v n xs) (hg : w.grownBy w' v.ownBlock) (hs : base ≤ w.heap.size) : Below base w0 w' :=
  hb.grown hg hs (fun k hk => (h.lt k hk).1)

def intCells (l : List Int) : List Value := l.map (Value.int .i64)
theorem intCells_at {l : List Int} {i : Nat} (h : i < l.length) : (intCells l)[i]? = some (.int .i64 (l.getD i 0)) := by
  simp [intCells, h]
theorem intCells_snoc (l : List Int) (x : Int) : intCells (l ++ [x]) = intCells l ++ [.int .i64 x] := by simp [intCells]
theorem intCells_length (l : List Int) : (intCells l).length = l.length := by simp [intCells]

theorem wordAt_any (v : Value) (l : List Int) (i : Nat) (w : World) (h : HoldsRow w v l.length (intCells l)) (hi : i ≤ 65535) :
    Calls Tryz.prog 172 #[v, .int .i64 i] w fun e w' => e = .returned (.int .i64 (l.getD i 0)) ∧ w = w' := by
  have hlen := h.len
  unfold maxLen at hlen
  rcases h with ⟨rfl, hn⟩ | ⟨g, cap, rfl, hg, h1, h2, h3⟩
  · have : l = [] := List.eq_nil_of_length_eq_zero hn
    subst this
    go_enter Tryz.func172, Tryz.ntmps172
    go_wp2
    go_ret
    exact ⟨rfl, rfl⟩
  · by_cases hlt : i < l.length
    · have hc := h3 i _ (intCells_at hlt)
      clear h3
      generalize l.getD i 0 = x at *
      generalize l.length = n at *
      go_enter Tryz.func172, Tryz.ntmps172
      go_wp2
      go_ret
      exact ⟨rfl, rfl⟩
    · have HE : Hid (l.getD i 0 = 0) := by rw [List.getD_eq_getElem?_getD, List.getElem?_eq_none (by omega)]; rfl
      clear h3
      generalize l.getD i 0 = x at *
      generalize l.length = n at *
      go_enter Tryz.func172, Tryz.ntmps172
      go_wp2
      go_ret
      exact ⟨ret_int HE.out.symm, rfl⟩
theorem refOf_any (v : Value) (l : List Int) (i : Nat) (w : World) (h : HoldsRow w v l.length (intCells l)) (hi : i ≤ 65535) :
    Calls Tryz.prog 149 #[v, .int .i64 i] w fun e w' => e = .returned (.int .i64 (l.getD i 0)) ∧ w = w' := by
  have hlen := h.len
  unfold maxLen at hlen
  rcases h with ⟨rfl, hn⟩ | ⟨g, cap, rfl, hg, h1, h2, h3⟩
  · have : l = [] := List.eq_nil_of_length_eq_zero hn
    subst this
    go_enter Tryz.func149, Tryz.ntmps149
    go_wp2
    go_ret
    exact ⟨rfl, rfl⟩
  · by_cases hlt : i < l.length
    · have hc := h3 i _ (intCells_at hlt)
      clear h3
      generalize l.getD i 0 = x at *
      generalize l.length = n at *
      go_enter Tryz.func149, Tryz.ntmps149
      go_wp2
      go_ret
      exact ⟨rfl, rfl⟩
    · have HE : Hid (l.getD i 0 = 0) := by rw [List.getD_eq_getElem?_getD, List.getElem?_eq_none (by omega)]; rfl
      clear h3
      generalize l.getD i 0 = x at *
      generalize l.length = n at *
      go_enter Tryz.func149, Tryz.ntmps149
      go_wp2
      go_ret
      exact ⟨ret_int HE.out.symm, rfl⟩
theorem refWord_any (s : ByteArray) (i : Int) (w : World) (hs : s.size ≤ maxLen) (h0 : 0 ≤ i) (h1 : i + 1 < s.size) :
    Calls Tryz.prog 147 #[.string s, .int .i64 i] w fun e w' => e = .returned (.int .i64 ((M.bz s i.toNat : Int) * 256 + M.bz s (i.toNat + 1))) ∧ w = w' := by
  have hb1 := M.bz_lt s i.toNat
  have hb2 := M.bz_lt s (i.toNat + 1)
  have hs' := hs
  unfold maxLen at hs'
  go_enter Tryz.func147, Tryz.ntmps147
  go_wp2_with fail
  refine (refNumber_in s _ _ hs h0 (by omega)).mono ?_
  rintro e w' ⟨rfl, rfl⟩
  go_wp2_with fail
  refine (refNumber_in s _ _ hs (by omega) (by omega)).mono ?_
  rintro e w' ⟨rfl, rfl⟩
  rw [show (i + 1).toNat = i.toNat + 1 from by omega]
  go_wp2
  go_ret
  exact ⟨ret_int (by rw [Int.mul_comm]), rfl⟩
end Go.Proofs.YtjfmiomopfjecabGreat

/- Which operands may stand: node.Fits and the document's allowed; and what a node's value is: node.Value. -/
namespace Go.Proofs.YtjfmiomopfjecabGreat
open Go.RowKit

theorem okOp_le {op a b n : Nat} (h : M.okOp op a b n = true) : op ≤ 7 ∧ (op = 6 → b ≤ 15) := by
  unfold M.okOp at h
  by_cases e0 : op = 0
  · omega
  · rw [if_neg e0] at h
    by_cases e5 : op ≤ 5
    · omega
    · rw [if_neg e5] at h
      by_cases e6 : op = 6
      · rw [if_pos e6] at h; simp at h; omega
      · rw [if_neg e6] at h; simp at h; omega
theorem nodeValue_any (op a b : Nat) (v : Value) (l : List Int) (w : World) (hl : M.Vals l) (h : HoldsRow w v l.length (intCells l)) (ha : a < 256) (hb : b < 256) (h7 : op ≤ 7) (h6 : op = 6 → b ≤ 15) :
    Calls Tryz.prog 173 #[.agg #[.int .i64 op, .int .i64 a, .int .i64 b], v] w fun e w' => e = .returned (.int .i64 (M.nodeVal l op a b)) ∧ Below w.heap.size w w' := by
  have hbel : ∀ o, Below w.heap.size w (w.alloc o) := fun o => (Below.refl _ _).alloc (Nat.le_refl _) o
  have hh : ∀ o, HoldsRow (w.alloc o) v l.length (intCells l) := fun o => h.mono (hbel o)
  have HH := hide hh
  have HB := hide hbel
  have hx := hl.getD a
  have hy := hl.getD b
  clear hh hbel h
  have hops : op = 0 ∨ (1 ≤ op ∧ op ≤ 5) ∨ op = 6 ∨ op = 7 := by omega
  rcases hops with rfl | ⟨h1, h5⟩ | rfl | rfl
  · have HE : Hid (M.nodeVal l 0 a b = M.wordVal ((a : Int) * 256 + b)) := rfl
    go_enter Tryz.func173, Tryz.ntmps173
    go_wp2_with fail
    refine (wordAt_any v l a _ (unhide HH _) (by omega)).mono ?_
    rintro e w' ⟨rfl, rfl⟩
    generalize l.getD a 0 = x at *
    go_wp2_with fail
    refine (wordValue_any _ _ _ (by omega) (by omega) (by omega) (by omega)).mono ?_
    rintro e w' ⟨rfl, rfl⟩
    go_wp2
    go_ret
    exact ⟨ret_int HE.out.symm, unhide HB _⟩
  · have HE : Hid (M.nodeVal l op a b = M.nodeDo op (l.getD a 0) (l.getD b 0) a b) := rfl
    have e0 : ((op : Int) == 0) = false := beq_eq_false_iff_ne.2 (by omega)
    have e6 : ((op : Int) == 6) = false := beq_eq_false_iff_ne.2 (by omega)
    have e7 : ((op : Int) == 7) = false := beq_eq_false_iff_ne.2 (by omega)
    go_enter Tryz.func173, Tryz.ntmps173
    go_wp2_with fail
    refine (wordAt_any v l a _ (unhide HH _) (by omega)).mono ?_
    rintro e w' ⟨rfl, rfl⟩
    generalize l.getD a 0 = x at *
    go_wp2_with fail
    refine (wordAt_any v l b _ (unhide HH _) (by omega)).mono ?_
    rintro e w' ⟨rfl, rfl⟩
    generalize l.getD b 0 = y at *
    go_wp2_with fail
    refine (ofTwo_any op x y a b _ hx hy h1 h5).mono ?_
    rintro e w' ⟨rfl, rfl⟩
    go_wp2
    go_ret
    exact ⟨ret_int HE.out.symm, unhide HB _⟩
  · have HE : Hid (M.nodeVal l 6 a b = l.getD a 0 / 2 ^ b) := rfl
    have hb15 := h6 rfl
    go_enter Tryz.func173, Tryz.ntmps173
    go_wp2_with fail
    refine (wordAt_any v l a _ (unhide HH _) (by omega)).mono ?_
    rintro e w' ⟨rfl, rfl⟩
    generalize l.getD a 0 = x at *
    go_wp2_with fail
    refine (nodeShift_any x b _ hx hb15).mono ?_
    rintro e w' ⟨rfl, rfl⟩
    go_wp2
    go_ret
    exact ⟨ret_int HE.out.symm, unhide HB _⟩
  · have HE : Hid (M.nodeVal l 7 a b = M.mx (l.getD a 0) 0) := rfl
    go_enter Tryz.func173, Tryz.ntmps173
    go_wp2_with fail
    refine (wordAt_any v l a _ (unhide HH _) (by omega)).mono ?_
    rintro e w' ⟨rfl, rfl⟩
    generalize l.getD a 0 = x at *
    go_wp2_with fail
    refine (nodeGreater_any x 0 _).mono ?_
    rintro e w' ⟨rfl, rfl⟩
    go_wp2
    go_ret
    exact ⟨ret_int HE.out.symm, unhide HB _⟩
theorem fits_any (op a b n : Nat) (w : World) (_h1 : op < 256) (_h2 : a < 256) (_h3 : b < 256) (_h4 : n ≤ 65535) :
    Calls Tryz.prog 130 #[.agg #[.int .i64 op, .int .i64 a, .int .i64 b], .int .i64 n] w fun e w' => e = .returned (.bool (M.okOp op a b n)) ∧ Below w.heap.size w w' := by
  have hops : op = 0 ∨ op = 1 ∨ op = 2 ∨ op = 3 ∨ op = 4 ∨ op = 5 ∨ op = 6 ∨ op = 7 ∨ 8 ≤ op := by omega
  rcases hops with rfl | rfl | rfl | rfl | rfl | rfl | rfl | rfl | h8
  · have HO : Hid (M.okOp 0 a b n = true) := rfl
    go_enter Tryz.func130, Tryz.ntmps130
    go_wp2
    go_ret
    exact ⟨ret_bool HO.out.symm, (Below.refl _ _).alloc (Nat.le_refl _) _⟩
  · have HO : Hid (M.okOp 1 a b n = (decide (a < n) && decide (b < n))) := rfl
    by_cases ha : a < n
    · by_cases hb : b < n
      · go_enter Tryz.func130, Tryz.ntmps130
        go_wp2
        go_ret
        exact ⟨ret_bool (by rw [HO.out]; simp [ha, hb]), (Below.refl _ _).alloc (Nat.le_refl _) _⟩
      · go_enter Tryz.func130, Tryz.ntmps130
        go_wp2
        go_ret
        exact ⟨ret_bool (by rw [HO.out]; simp [ha, hb]), (Below.refl _ _).alloc (Nat.le_refl _) _⟩
    · go_enter Tryz.func130, Tryz.ntmps130
      go_wp2
      go_ret
      exact ⟨ret_bool (by rw [HO.out]; simp [ha]), (Below.refl _ _).alloc (Nat.le_refl _) _⟩
  · have HO : Hid (M.okOp 2 a b n = (decide (a < n) && decide (b < n))) := rfl
    by_cases ha : a < n
    · by_cases hb : b < n
      · go_enter Tryz.func130, Tryz.ntmps130
        go_wp2
        go_ret
        exact ⟨ret_bool (by rw [HO.out]; simp [ha, hb]), (Below.refl _ _).alloc (Nat.le_refl _) _⟩
      · go_enter Tryz.func130, Tryz.ntmps130
        go_wp2
        go_ret
        exact ⟨ret_bool (by rw [HO.out]; simp [ha, hb]), (Below.refl _ _).alloc (Nat.le_refl _) _⟩
    · go_enter Tryz.func130, Tryz.ntmps130
      go_wp2
      go_ret
      exact ⟨ret_bool (by rw [HO.out]; simp [ha]), (Below.refl _ _).alloc (Nat.le_refl _) _⟩
  · have HO : Hid (M.okOp 3 a b n = (decide (a < n) && decide (b < n))) := rfl
    by_cases ha : a < n
    · by_cases hb : b < n
      · go_enter Tryz.func130, Tryz.ntmps130
        go_wp2
        go_ret
        exact ⟨ret_bool (by rw [HO.out]; simp [ha, hb]), (Below.refl _ _).alloc (Nat.le_refl _) _⟩
      · go_enter Tryz.func130, Tryz.ntmps130
        go_wp2
        go_ret
        exact ⟨ret_bool (by rw [HO.out]; simp [ha, hb]), (Below.refl _ _).alloc (Nat.le_refl _) _⟩
    · go_enter Tryz.func130, Tryz.ntmps130
      go_wp2
      go_ret
      exact ⟨ret_bool (by rw [HO.out]; simp [ha]), (Below.refl _ _).alloc (Nat.le_refl _) _⟩
  · have HO : Hid (M.okOp 4 a b n = (decide (a < n) && decide (b < n))) := rfl
    by_cases ha : a < n
    · by_cases hb : b < n
      · go_enter Tryz.func130, Tryz.ntmps130
        go_wp2
        go_ret
        exact ⟨ret_bool (by rw [HO.out]; simp [ha, hb]), (Below.refl _ _).alloc (Nat.le_refl _) _⟩
      · go_enter Tryz.func130, Tryz.ntmps130
        go_wp2
        go_ret
        exact ⟨ret_bool (by rw [HO.out]; simp [ha, hb]), (Below.refl _ _).alloc (Nat.le_refl _) _⟩
    · go_enter Tryz.func130, Tryz.ntmps130
      go_wp2
      go_ret
      exact ⟨ret_bool (by rw [HO.out]; simp [ha]), (Below.refl _ _).alloc (Nat.le_refl _) _⟩
  · have HO : Hid (M.okOp 5 a b n = (decide (a < n) && decide (b < n))) := rfl
    by_cases ha : a < n
    · by_cases hb : b < n
      · go_enter Tryz.func130, Tryz.ntmps130
        go_wp2
        go_ret
        exact ⟨ret_bool (by rw [HO.out]; simp [ha, hb]), (Below.refl _ _).alloc (Nat.le_refl _) _⟩
      · go_enter Tryz.func130, Tryz.ntmps130
        go_wp2
        go_ret
        exact ⟨ret_bool (by rw [HO.out]; simp [ha, hb]), (Below.refl _ _).alloc (Nat.le_refl _) _⟩
    · go_enter Tryz.func130, Tryz.ntmps130
      go_wp2
      go_ret
      exact ⟨ret_bool (by rw [HO.out]; simp [ha]), (Below.refl _ _).alloc (Nat.le_refl _) _⟩
  · have HO : Hid (M.okOp 6 a b n = (decide (a < n) && decide (b ≤ 15))) := rfl
    by_cases ha : a < n
    · by_cases hb : b ≤ 15
      · go_enter Tryz.func130, Tryz.ntmps130
        go_wp2
        go_ret
        exact ⟨ret_bool (by rw [HO.out]; simp [ha, hb]; omega), (Below.refl _ _).alloc (Nat.le_refl _) _⟩
      · go_enter Tryz.func130, Tryz.ntmps130
        go_wp2
        go_ret
        exact ⟨ret_bool (by rw [HO.out]; simp [ha, hb]; omega), (Below.refl _ _).alloc (Nat.le_refl _) _⟩
    · go_enter Tryz.func130, Tryz.ntmps130
      go_wp2
      go_ret
      exact ⟨ret_bool (by rw [HO.out]; simp [ha]), (Below.refl _ _).alloc (Nat.le_refl _) _⟩
  · have HO : Hid (M.okOp 7 a b n = (decide (a < n) && decide (b = 0))) := Bool.true_and _
    by_cases ha : a < n
    · by_cases hb : b = 0
      · go_enter Tryz.func130, Tryz.ntmps130
        go_wp2
        go_ret
        exact ⟨ret_bool (by rw [HO.out]; simp [ha, hb]), (Below.refl _ _).alloc (Nat.le_refl _) _⟩
      · go_enter Tryz.func130, Tryz.ntmps130
        go_wp2
        go_ret
        exact ⟨ret_bool (by rw [HO.out]; simp [ha, hb]), (Below.refl _ _).alloc (Nat.le_refl _) _⟩
    · go_enter Tryz.func130, Tryz.ntmps130
      go_wp2
      go_ret
      exact ⟨ret_bool (by rw [HO.out]; simp [ha]), (Below.refl _ _).alloc (Nat.le_refl _) _⟩
  · have HO : Hid (M.okOp op a b n = false) := by
      unfold M.okOp
      rw [if_neg (by omega), if_neg (by omega), if_neg (by omega), decide_eq_false (by omega)]
      rfl
    go_enter Tryz.func130, Tryz.ntmps130
    go_wp2
    go_ret
    exact ⟨ret_bool HO.out.symm, (Below.refl _ _).alloc (Nat.le_refl _) _⟩
theorem refAllowed_any (op a b n : Nat) (w : World) (_h1 : op < 256) (_h2 : a < 256) (_h3 : b < 256) (_h4 : n ≤ 65535) :
    Calls Tryz.prog 118 #[.int .i64 op, .int .i64 a, .int .i64 b, .int .i64 n] w fun e w' => e = .returned (.bool (M.okOp op a b n)) ∧ w = w' := by
  have hops : op = 0 ∨ op = 1 ∨ op = 2 ∨ op = 3 ∨ op = 4 ∨ op = 5 ∨ op = 6 ∨ op = 7 ∨ 8 ≤ op := by omega
  rcases hops with rfl | rfl | rfl | rfl | rfl | rfl | rfl | rfl | h8
  · have HO : Hid (M.okOp 0 a b n = true) := rfl
    go_enter Tryz.func118, Tryz.ntmps118
    go_wp2
    go_ret
    exact ⟨ret_bool HO.out.symm, rfl⟩
  · have HO : Hid (M.okOp 1 a b n = (decide (a < n) && decide (b < n))) := rfl
    by_cases ha : a < n
    · by_cases hb : b < n
      · go_enter Tryz.func118, Tryz.ntmps118
        go_wp2
        go_ret
        exact ⟨ret_bool (by rw [HO.out]; simp [ha, hb]), rfl⟩
      · go_enter Tryz.func118, Tryz.ntmps118
        go_wp2
        go_ret
        exact ⟨ret_bool (by rw [HO.out]; simp [ha, hb]), rfl⟩
    · go_enter Tryz.func118, Tryz.ntmps118
      go_wp2
      go_ret
      exact ⟨ret_bool (by rw [HO.out]; simp [ha]), rfl⟩
  · have HO : Hid (M.okOp 2 a b n = (decide (a < n) && decide (b < n))) := rfl
    by_cases ha : a < n
    · by_cases hb : b < n
      · go_enter Tryz.func118, Tryz.ntmps118
        go_wp2
        go_ret
        exact ⟨ret_bool (by rw [HO.out]; simp [ha, hb]), rfl⟩
      · go_enter Tryz.func118, Tryz.ntmps118
        go_wp2
        go_ret
        exact ⟨ret_bool (by rw [HO.out]; simp [ha, hb]), rfl⟩
    · go_enter Tryz.func118, Tryz.ntmps118
      go_wp2
      go_ret
      exact ⟨ret_bool (by rw [HO.out]; simp [ha]), rfl⟩
  · have HO : Hid (M.okOp 3 a b n = (decide (a < n) && decide (b < n))) := rfl
    by_cases ha : a < n
    · by_cases hb : b < n
      · go_enter Tryz.func118, Tryz.ntmps118
        go_wp2
        go_ret
        exact ⟨ret_bool (by rw [HO.out]; simp [ha, hb]), rfl⟩
      · go_enter Tryz.func118, Tryz.ntmps118
        go_wp2
        go_ret
        exact ⟨ret_bool (by rw [HO.out]; simp [ha, hb]), rfl⟩
    · go_enter Tryz.func118, Tryz.ntmps118
      go_wp2
      go_ret
      exact ⟨ret_bool (by rw [HO.out]; simp [ha]), rfl⟩
  · have HO : Hid (M.okOp 4 a b n = (decide (a < n) && decide (b < n))) := rfl
    by_cases ha : a < n
    · by_cases hb : b < n
      · go_enter Tryz.func118, Tryz.ntmps118
        go_wp2
        go_ret
        exact ⟨ret_bool (by rw [HO.out]; simp [ha, hb]), rfl⟩
      · go_enter Tryz.func118, Tryz.ntmps118
        go_wp2
        go_ret
        exact ⟨ret_bool (by rw [HO.out]; simp [ha, hb]), rfl⟩
    · go_enter Tryz.func118, Tryz.ntmps118
      go_wp2
      go_ret
      exact ⟨ret_bool (by rw [HO.out]; simp [ha]), rfl⟩
  · have HO : Hid (M.okOp 5 a b n = (decide (a < n) && decide (b < n))) := rfl
    by_cases ha : a < n
    · by_cases hb : b < n
      · go_enter Tryz.func118, Tryz.ntmps118
        go_wp2
        go_ret
        exact ⟨ret_bool (by rw [HO.out]; simp [ha, hb]), rfl⟩
      · go_enter Tryz.func118, Tryz.ntmps118
        go_wp2
        go_ret
        exact ⟨ret_bool (by rw [HO.out]; simp [ha, hb]), rfl⟩
    · go_enter Tryz.func118, Tryz.ntmps118
      go_wp2
      go_ret
      exact ⟨ret_bool (by rw [HO.out]; simp [ha]), rfl⟩
  · have HO : Hid (M.okOp 6 a b n = (decide (a < n) && decide (b ≤ 15))) := rfl
    by_cases ha : a < n
    · by_cases hb : b ≤ 15
      · go_enter Tryz.func118, Tryz.ntmps118
        go_wp2
        go_ret
        exact ⟨ret_bool (by rw [HO.out]; simp [ha, hb]; omega), rfl⟩
      · go_enter Tryz.func118, Tryz.ntmps118
        go_wp2
        go_ret
        exact ⟨ret_bool (by rw [HO.out]; simp [ha, hb]; omega), rfl⟩
    · go_enter Tryz.func118, Tryz.ntmps118
      go_wp2
      go_ret
      exact ⟨ret_bool (by rw [HO.out]; simp [ha]), rfl⟩
  · have HO : Hid (M.okOp 7 a b n = (decide (a < n) && decide (b = 0))) := Bool.true_and _
    by_cases ha : a < n
    · by_cases hb : b = 0
      · go_enter Tryz.func118, Tryz.ntmps118
        go_wp2
        go_ret
        exact ⟨ret_bool (by rw [HO.out]; simp [ha, hb]), rfl⟩
      · go_enter Tryz.func118, Tryz.ntmps118
        go_wp2
        go_ret
        exact ⟨ret_bool (by rw [HO.out]; simp [ha, hb]), rfl⟩
    · go_enter Tryz.func118, Tryz.ntmps118
      go_wp2
      go_ret
      exact ⟨ret_bool (by rw [HO.out]; simp [ha]), rfl⟩
  · have HO : Hid (M.okOp op a b n = false) := by
      unfold M.okOp
      rw [if_neg (by omega), if_neg (by omega), if_neg (by omega), decide_eq_false (by omega)]
      rfl
    go_enter Tryz.func118, Tryz.ntmps118
    go_wp2
    go_ret
    exact ⟨ret_bool HO.out.symm, rfl⟩
end Go.Proofs.YtjfmiomopfjecabGreat

/- One element behind a list of the call's own. -/
namespace Go.Proofs.YtjfmiomopfjecabGreat
open Go.RowKit

theorem infoI : (Tryz.prog.info? 3).map (fun i => (i.zero, i.size, i.bytes)) = some (some (.int .i64 0), 1, 8) := by kernel_rfl

/-- 'l = append(l, x)', l nil or the call's own: x's cells lie in a new block -/
theorem append_one {ops : Array Oper} {rest : List Oper} {o : Oper} {a : Act} {Q : Exit → Act → World → Prop} (w : World) (hgd : o.guard = none) (s x : Operand) (t : TypeId)
    (ho : o.op = .call { callee := .builtin .append, args := #[s, x], argTypes := #[t, t] })
    (base : Nat) (e : TypeId) (i : TypeInfo) (z : Value) (size bytes : Nat) (ht : Tryz.prog.underlying t = some (.slice e)) (hi : Tryz.prog.info? e = some i) (hz : i.zero = some z)
    (hsize : i.size = size) (hby : i.bytes = bytes) (hzs : z.cells.size = size) (hsz : 0 < size)
    (v : Value) (n : Nat) (xs : List Value) (hs : a.eval s = v) (hown : w.ownsRow base e size v n xs)
    (news : List Value) (hl : news.length = size) (hx : a.eval x = .slice (some ⟨w.heap.size, 0, none⟩) 1 1) (h1 : ∀ u ∈ news, u.oneCell' = true)
    (hn : n + 1 ≤ 1000000) (hb : bytes ≤ 1000) (hbase : base ≤ w.heap.size)
    (h : ∀ v' w', w'.ownsRow base e size v' (n + 1) (xs ++ news) → (∀ w0, Below base w0 w → Below base w0 w') → w.heap.size ≤ w'.heap.size → wpList Tryz.prog ops Q rest (a.put o.dst v') w') :
    wpList Tryz.prog ops Q (o :: rest) a (w.alloc (.cells news.toArray e)) := by
  refine wpList_append_own _ hgd s x t ho base e i z size bytes ht hi hz hsize hby hzs hsz v n xs hs (hown.alloc _) ⟨w.heap.size, 0, none⟩ 1 1 news hx (by omega) ?_ h1 (by unfold maxLen; omega) ?_ ?_ ?_
  · intro j u hj
    rw [add_at, World.cell?_alloc_at _ _ _ _ rfl]
    simpa using hj
  · exact Nat.le_trans (Nat.mul_le_mul hn hb) (by omega)
  · have : (w.alloc (.cells news.toArray e)).heap.size = w.heap.size + 1 := by simp
    omega
  · intro v' w' hown' hgrow _
    have hsz' : (w.alloc (.cells news.toArray e)).heap.size = w.heap.size + 1 := by simp
    have hg := hgrow.size
    refine h v' w' hown' (fun w0 hb0 => ?_) (by omega)
    exact (hb0.alloc hbase _).grown hgrow (by omega) (fun k hk => (hown.lt k hk).1)

theorem append_int {ops : Array Oper} {rest : List Oper} {o : Oper} {a : Act} {Q : Exit → Act → World → Prop} (w : World) (hgd : o.guard = none) (s x : Operand)
    (ho : o.op = .call { callee := .builtin .append, args := #[s, x], argTypes := #[49, 49] })
    (base : Nat) (v : Value) (l : List Int) (y : Int) (hs : a.eval s = v) (hx : a.eval x = .slice (some ⟨w.heap.size, 0, none⟩) 1 1)
    (hown : w.ownsRow base 3 1 v l.length (intCells l)) (hn : l.length + 1 ≤ 1000000) (hbase : base ≤ w.heap.size)
    (h : ∀ v' w', w'.ownsRow base 3 1 v' (l ++ [y]).length (intCells (l ++ [y])) → (∀ w0, Below base w0 w → Below base w0 w') → w.heap.size ≤ w'.heap.size → wpList Tryz.prog ops Q rest (a.put o.dst v') w') :
    wpList Tryz.prog ops Q (o :: rest) a (w.alloc (.cells #[.int .i64 y] 3)) := by
  obtain ⟨i0, hi, hz0, hz1, hz2⟩ := info_parts infoI
  refine append_one w hgd s x 49 ho base 3 i0 (.int .i64 0) 1 8 Tryz.underlying49 hi hz0 hz1 hz2 rfl (by decide) v l.length (intCells l) hs hown [.int .i64 y] rfl hx ?_ hn (by omega) hbase ?_
  · intro u hu; simp at hu; subst hu; rfl
  · intro v' w' a b c
    refine h v' w' ?_ b c
    rw [List.length_append, intCells_snoc]
    exact a
/-- the same as a step of a region that draws its order -/
theorem step_int {ops : Array Oper} {o : Oper} {a : Act} {K : Act → World → Prop} {Q : Exit → Act → World → Prop} {E : Prop} {W : World} (hgd : o.guard = none) (s x : Operand)
    (ho : o.op = .call { callee := .builtin .append, args := #[s, x], argTypes := #[49, 49] })
    (base : Nat) (v : Value) (l : List Int) (y : Int) (g : Nat) (hs : a.eval s = v) (hx : a.eval x = .slice (some ⟨g, 0, none⟩) 1 1) (hc : W.cell? ⟨g, 0, none⟩ = some (.int .i64 y))
    (hown : W.ownsRow base 3 1 v l.length (intCells l)) (hn : l.length + 1 ≤ 1000000) (hbase : base ≤ W.heap.size)
    (h : ∀ v' w', w'.ownsRow base 3 1 v' (l ++ [y]).length (intCells (l ++ [y])) → (∀ w0, Below base w0 W → Below base w0 w') → W.heap.size ≤ w'.heap.size → K (a.put o.dst v') w') :
    if Region.wanted o (yielded ops a.tmps) = true then Oper.wp Tryz.prog o a W K Q else E := by
  have hw : Region.wanted o (yielded ops a.tmps) = true := by simp [Region.wanted, hgd]
  rw [if_pos hw]
  obtain ⟨i0, hi, hz0, hz1, hz2⟩ := info_parts infoI
  refine wp_append_own _ s x 49 ho base 3 i0 (.int .i64 0) 1 8 Tryz.underlying49 hi hz0 hz1 hz2 rfl (by decide) v l.length (intCells l) hs hown ⟨g, 0, none⟩ 1 1 [.int .i64 y] hx rfl ?_ ?_ (by unfold maxLen; omega) (by omega) hbase ?_
  · intro j u hj
    match j, hj with
    | 0, hj => simp at hj; subst hj; rw [add_at]; exact hc
  · intro u hu; simp at hu; subst hu; rfl
  · intro v' w' hown' hgrow _
    refine h v' w' ?_ (fun w0 hb0 => ?_) hgrow.size
    · rw [List.length_append, intCells_snoc]
      exact hown'
    · exact hb0.grown hgrow hbase (fun k hk => (hown.lt k hk).1)
end Go.Proofs.YtjfmiomopfjecabGreat

/- The program's reading of images: shaped, nodes, Bytes, Values, Pick. -/
namespace Go.Proofs.YtjfmiomopfjecabGreat
open Go.RowKit

theorem shaped_yes (s : ByteArray) (w : World) (hs : s.size ≤ maxLen) (h : M.headOk s = true) :
    Calls Tryz.prog 99 #[.string s] w fun e w' => e = .returned (.bool true) ∧ w = w' := by
  obtain ⟨h0, h1, h2, h3, h4, h5, h6⟩ := M.headOk_eq h
  have k4 : 4 ≤ s.size := by omega
  have p0 : 0 < s.size := by omega
  have p1 : 1 < s.size := by omega
  have p2 : 2 < s.size := by omega
  have p3 : 3 < s.size := by omega
  rw [← M.bz_at s 0 p0] at h0
  rw [← M.bz_at s 1 p1] at h1 h2
  rw [← M.bz_at s 2 p2] at h3 h6
  rw [← M.bz_at s 3 p3] at h4 h5 h6
  have hn : (((s[0]'p0).toNat : Int) != 77) = false := by rw [bne_eq_false_iff_eq]; omega
  have he : ((s.size : Int) == (4 : Int) + (3 : Int) * ((s[2]'p2).toNat : Int) + ((s[3]'p3).toNat : Int)) = true := by rw [beq_iff_eq]; omega
  clear h h6 h0
  unfold maxLen at hs
  go_enter Tryz.func99, Tryz.ntmps99
  go_wp2
  go_ret
  exact ⟨rfl, rfl⟩
set_option maxHeartbeats 1600000 in
theorem shaped_no (s : ByteArray) (w : World) (hs : s.size ≤ maxLen) (h : M.headOk s = false) :
    Calls Tryz.prog 99 #[.string s] w fun e w' => e = .returned (.bool false) ∧ w = w' := by
  have hno := M.headOk_no h
  clear h
  unfold maxLen at hs
  by_cases k4 : 4 ≤ s.size
  · have p0 : 0 < s.size := by omega
    have p1 : 1 < s.size := by omega
    have p2 : 2 < s.size := by omega
    have p3 : 3 < s.size := by omega
    rw [← M.bz_at s 0 p0, ← M.bz_at s 1 p1, ← M.bz_at s 2 p2, ← M.bz_at s 3 p3] at hno
    have q0 : (s[0]'p0).toNat < 256 := UInt8.toNat_lt _
    have q1 : (s[1]'p1).toNat < 256 := UInt8.toNat_lt _
    have q2 : (s[2]'p2).toNat < 256 := UInt8.toNat_lt _
    have q3 : (s[3]'p3).toNat < 256 := UInt8.toNat_lt _
    by_cases c0 : (s[0]'p0).toNat = 77
    · have hn : (((s[0]'p0).toNat : Int) != 77) = false := by rw [bne_eq_false_iff_eq]; omega
      by_cases c1 : (s[1]'p1).toNat < 1
      · clear hno c0
        go_enter Tryz.func99, Tryz.ntmps99
        go_wp2
        go_ret
        exact ⟨rfl, rfl⟩
      · by_cases c2 : 4 < (s[1]'p1).toNat
        · clear hno c0
          go_enter Tryz.func99, Tryz.ntmps99
          go_wp2
          go_ret
          exact ⟨rfl, rfl⟩
        · by_cases c3 : 24 < (s[2]'p2).toNat
          · clear hno c0
            go_enter Tryz.func99, Tryz.ntmps99
            go_wp2
            go_ret
            exact ⟨rfl, rfl⟩
          · by_cases c4 : (s[3]'p3).toNat < 1
            · clear hno c0
              go_enter Tryz.func99, Tryz.ntmps99
              go_wp2
              go_ret
              exact ⟨rfl, rfl⟩
            · by_cases c5 : 4 < (s[3]'p3).toNat
              · clear hno c0
                go_enter Tryz.func99, Tryz.ntmps99
                go_wp2
                go_ret
                exact ⟨rfl, rfl⟩
              · have he : ((s.size : Int) == (4 : Int) + (3 : Int) * ((s[2]'p2).toNat : Int) + ((s[3]'p3).toNat : Int)) = false := by rw [beq_eq_false_iff_ne]; omega
                clear hno c0
                go_enter Tryz.func99, Tryz.ntmps99
                go_wp2
                go_ret
                exact ⟨rfl, rfl⟩
    · have hn : (((s[0]'p0).toNat : Int) != 77) = true := by rw [bne_iff_ne]; omega
      clear hno c0
      go_enter Tryz.func99, Tryz.ntmps99
      go_wp2
      go_ret
      exact ⟨rfl, rfl⟩
  · clear hno
    go_enter Tryz.func99, Tryz.ntmps99
    go_wp2
    go_ret
    exact ⟨rfl, rfl⟩

/-- bytes of a text, as numbers -/
def bvals (s : ByteArray) (from_ k : Nat) : List Int := (List.range k).map fun j => (M.bz s (from_ + j) : Int)
theorem bvals_length (s : ByteArray) (f k : Nat) : (bvals s f k).length = k := by simp [bvals]
theorem bvals_succ (s : ByteArray) (f k : Nat) : bvals s f (k + 1) = bvals s f k ++ [(M.bz s (f + k) : Int)] := by
  unfold bvals; rw [List.range_succ, List.map_append]; rfl
theorem bvals_at (s : ByteArray) (f k j : Nat) (h : j < k) : (intCells (bvals s f k))[j]? = some (.int .i64 (M.bz s (f + j))) := by
  simp [intCells, bvals, h]

theorem wordBytes_any (s : ByteArray) (f c : Nat) (w : World) (hs : s.size ≤ maxLen) (hf : f ≤ 65535) (hc : c ≤ 255) :
    Calls Tryz.prog 102 #[.string s, .int .i64 f, .int .i64 c] w fun e w' => ∃ v, e = .returned v ∧ w'.ownsRow w.heap.size 3 1 v c (intCells (bvals s f c)) ∧ Below w.heap.size w w' := by
  go_enter Tryz.func102, Tryz.ntmps102
  go_wp2_with fail
  go_loopw [7, 8] (fun v i wr => ∃ k : Nat, k ≤ c ∧ i = .int .i64 k ∧ wr.ownsRow w.heap.size 3 1 v (bvals s f k).length (intCells (bvals s f k)) ∧ Below w.heap.size w wr) (fun _ i _ => c - (intOf i).toNat)
  case atStart => exact ⟨0, by omega, rfl, World.ownsRow_nil _ _ _ _, Below.refl _ _⟩
  case round =>
    obtain ⟨k, hk, rfl, hown, hbel⟩ := hrel
    have HO := hide hown
    have HB := hide hbel
    have hsz := hbel.size
    have HL := hide (bvals_length s f k)
    clear hown hbel
    by_cases hlt : k < c
    · have HS := hide (bvals_succ s f k)
      go_wp2_with fail
      refine (wordByte_any s _ _ hs (by omega)).mono ?_
      rintro e w' ⟨rfl, rfl⟩
      rw [show ((f : Int) + (k : Int)).toNat = f + k from by omega]
      generalize M.bz s (f + k) = x at *
      go_wp2_with (at_builtin; (refine append_int _ rfl (.tmp 14) (.tmp 20) rfl w.heap.size u7 (bvals s f k) x rfl rfl (unhide HO) (by rw [HL.out]; omega) hsz ?_); intro v' w1 hown1 hbel1 hsz1)
      have HR : Hid (w1.ownsRow w.heap.size 3 1 v' (bvals s f (k + 1)).length (intCells (bvals s f (k + 1)))) := by rw [HS.out]; exact hown1
      have HB1 := hide (hbel1 _ (unhide HB))
      clear hown1 hbel1
      go_roundw
      case rel => exact ⟨k + 1, by omega, by go_num, unhide HR, unhide HB1⟩
      case measure => simp [intOf]; omega
    · have : k = c := by omega
      subst this
      go_wp2
      go_ret
      exact ⟨_, rfl, by have h := unhide HO; rw [HL.out] at h; exact h, unhide HB⟩

set_option maxRecDepth 10000 in
theorem wordValues_any (inp : ByteArray) (n : Nat) (w : World) (hi : inp.size = 2 * n) (hn : n ≤ 4) :
    Calls Tryz.prog 171 #[.string inp] w fun e w' => ∃ v, e = .returned v ∧ w'.ownsRow w.heap.size 3 1 v (M.insOf inp n).length (intCells (M.insOf inp n)) ∧ Below w.heap.size w w' := by
  have hil : inp.size ≤ 2 * n := by omega
  have hih : 2 * n ≤ inp.size := by omega
  clear hi
  go_enter Tryz.func171, Tryz.ntmps171
  go_wp2_with fail
  go_loopw [3, 4] (fun v i wr => ∃ k q : Nat, k ≤ n ∧ 2 * k ≤ q ∧ q ≤ 2 * k ∧ i = .int .i64 q ∧ wr.ownsRow w.heap.size 3 1 v (M.insOf inp k).length (intCells (M.insOf inp k)) ∧ Below w.heap.size w wr) (fun _ i _ => 2 * n - (intOf i).toNat)
  case atStart => exact ⟨0, 0, by omega, by omega, by omega, rfl, World.ownsRow_nil _ _ _ _, Below.refl _ _⟩
  case round =>
    obtain ⟨k, q, hk, hq0, hq1, rfl, hown, hbel⟩ := hrel
    have HO := hide hown
    have HB := hide hbel
    have hsz := hbel.size
    have HL := hide (M.insOf_length inp k)
    clear hown hbel
    by_cases hlt : k < n
    · have p0 : q < inp.size := by omega
      have p1 : q + 1 < inp.size := by omega
      have HS : Hid (M.insOf inp (k + 1) = M.insOf inp k ++ [M.wordVal (((inp[q]'p0).toNat : Int) * 256 + (inp[q + 1]'p1).toNat)]) := by
        have e : q = 2 * k := by omega
        subst e
        rw [M.insOf_succ, M.bz_at _ _ p0, M.bz_at _ _ p1]; rfl
      have q0 : (inp[q]'p0).toNat < 256 := UInt8.toNat_lt _
      have q1 : (inp[q + 1]'p1).toNat < 256 := UInt8.toNat_lt _
      have hi0 : (q : Int) < (inp.size : Int) := by omega
      have hi1 : (q : Int) + 1 < (inp.size : Int) := by omega
      have hi2 : (0 : Int) ≤ (q : Int) + 1 := by omega
      have hwr : IntKind.i64.wrap ((q : Int) + 1) = (q : Int) + 1 := IntWalk.i64_in _ ⟨by omega, by omega⟩
      have htn : ((q : Int) + 1).toNat = q + 1 := by omega
      go_wp2_with fail
      have hwb0 : IntKind.i64.wrap ((inp[q]'p0).toNat : Int) = ((inp[q]'p0).toNat : Int) := IntWalk.i64_in _ ⟨by omega, by omega⟩
      have hwb1 : IntKind.i64.wrap ((inp[q + 1]'p1).toNat : Int) = ((inp[q + 1]'p1).toNat : Int) := IntWalk.i64_in _ ⟨by omega, by omega⟩
      go_region_held3 (fun _ => True) (first | trivial | (intros; trivial)) ((first | (refine step_int rfl (.tmp 12) (.tmp 23) rfl w.heap.size u3 (M.insOf inp k) (M.wordVal (((inp[q]'p0).toNat : Int) * 256 + (inp[q + 1]'p1).toNat)) _ (by rfl) (by rfl) (by simp) (by exact ((unhide HO).alloc _).drew) (by rw [HL.out]; omega) (by simp; omega) ?_; intro v' w1 hown1 hbel1 hsz1) | (go_at_call 190; refine (wordValue_any _ _ _ (by omega) (by omega) (by omega) (by omega)).mono ?_; rintro e w' ⟨rfl, rfl⟩)))
      all_goals
        have HR : Hid (w1.ownsRow w.heap.size 3 1 v' (M.insOf inp (k + 1)).length (intCells (M.insOf inp (k + 1)))) := by rw [HS.out]; exact hown1
        have HB1 := hide (hbel1 w (by exact ((unhide HB).alloc hsz _).drew))
        clear hown1 hbel1
        go_wp2
        go_roundw
        case rel => exact ⟨k + 1, q + 2, by omega, by omega, by omega, by go_num, unhide HR, unhide HB1⟩
        case measure => simp [intOf]; omega
    · have : k = n := by omega
      subst this
      go_wp2
      go_ret
      exact ⟨_, rfl, unhide HO, unhide HB⟩

theorem outAt (l : List Int) (s : ByteArray) (f k : Nat) : M.outTo l s f (k + 1) = M.outTo l s f k ++ M.wordText (l.getD (M.bz s (f + k)) 0) := rfl
theorem pick_any (v1 v2 : Value) (l : List Int) (s : ByteArray) (f c : Nat) (w : World) (hl : M.Vals l) (h1 : HoldsRow w v1 l.length (intCells l)) (h2 : HoldsRow w v2 c (intCells (bvals s f c))) (hc : c ≤ 4) :
    Calls Tryz.prog 139 #[v1, v2] w fun e w' => e = .returned (.string (M.outTo l s f c)) ∧ Below w.heap.size w w' := by
  by_cases hc0 : c = 0
  · subst hc0
    rcases h2 with ⟨rfl, _⟩ | ⟨g, cap, rfl, hg, hcap, hmax, hcell⟩
    · go_enter Tryz.func139, Tryz.ntmps139
      go_wp2_with fail
      refine wp_loop_rounds 1 ?_
      rw [rounds_succ]
      go_wp2
      go_ret
      exact ⟨rfl, Below.refl _ _⟩
    · go_enter Tryz.func139, Tryz.ntmps139
      go_wp2_with fail
      refine wp_loop_rounds 1 ?_
      rw [rounds_succ]
      go_wp2
      go_ret
      exact ⟨rfl, Below.refl _ _⟩
  · rcases h2 with ⟨_, h0⟩ | ⟨g, cap, rfl, hg, hcap, hmax, hcell⟩
    · exact absurd h0 hc0
    · have HC := hide hcell
      have HL := hide hl
      have HH := hide h1
      clear hcell hl h1 hc0
      unfold maxLen at hmax
      go_enter Tryz.func139, Tryz.ntmps139
      go_wp2_with fail
      go_loopw [5, 6] (fun v i wr => ∃ (k : Nat) (o : ByteArray), k ≤ c ∧ i = .int .i64 k ∧ v = .string o ∧ Hid (o = M.outTo l s f k) ∧ o.size ≤ 8 ∧ Below w.heap.size w wr) (fun _ i _ => c - (intOf i).toNat)
      case atStart => exact ⟨0, _, by omega, rfl, rfl, rfl, by decide, Below.refl _ _⟩
      case round =>
        obtain ⟨k, o, hk, rfl, rfl, ho, ho8, hbel⟩ := hrel
        have HB := hide hbel
        have hsz := hbel.size
        by_cases hlt : k < c
        · have b1 := M.bz_lt s (f + k)
          have hcl := (hbel.cell (p := ⟨g, k, none⟩) hg).trans (unhide HC k _ (bvals_at s f c k hlt))
          have HR := hide ((unhide HH).mono hbel)
          have HS := hide (outAt l s f k)
          have HZ := hide (M.outTo_size l s f (k + 1))
          have hx := hide ((unhide HL).getD (M.bz s (f + k)))
          clear hbel
          generalize M.bz s (f + k) = a at *
          go_wp2_with fail
          refine (wordAt_any v1 l a _ (unhide HR) (by omega)).mono ?_
          rintro e w' ⟨rfl, rfl⟩
          generalize l.getD a 0 = x at *
          go_wp2_with fail
          refine (wordText_any x _ (unhide hx)).mono ?_
          rintro e w1 ⟨rfl, hb1⟩
          have ht := M.wordText_size x
          generalize M.wordText x = tx at *
          have ht2 : tx.size ≤ 2 := by omega
          clear ht
          have HB1 := hide ((unhide HB).trans (hb1.mono hsz))
          clear hb1
          have HEQ : Hid (o ++ tx = M.outTo l s f (k + 1)) := by rw [HS.out, ← ho.out]; rfl
          have HSZ : Hid ((o ++ tx).size ≤ 8) := by rw [HEQ.out, HZ.out]; show _ ≤ _; omega
          go_wp2
          go_roundw
          case rel => exact ⟨k + 1, o ++ tx, by omega, by go_num, rfl, HEQ, unhide HSZ, unhide HB1⟩
          case measure => simp [intOf]; omega
        · have : k = c := by omega
          subst this
          clear hbel
          go_wp2
          go_ret
          exact ⟨ret_string ho.out, unhide HB⟩
end Go.Proofs.YtjfmiomopfjecabGreat

/- The document's Image, Check and Eval. -/
namespace Go.Proofs.YtjfmiomopfjecabGreat
open Go.RowKit

theorem head_ref {s : ByteArray} (h : M.headOk s = false) :
    ¬ (refNum s 0 = 77 ∧ 1 ≤ refNum s 1 ∧ refNum s 1 ≤ 4 ∧ 0 ≤ refNum s 2 ∧ refNum s 2 ≤ 24 ∧ 1 ≤ refNum s 3 ∧ refNum s 3 ≤ 4 ∧ (s.size : Int) = 4 + 3 * refNum s 2 + refNum s 3) := by
  intro ⟨h0, h1, h2, h3, h4, h5, h6, h7⟩
  have k3 : 3 < s.size := by
    by_cases e : 3 < s.size
    · exact e
    · have : refNum s 3 = -1 := if_neg e
      omega
  rw [refNum_in (by omega)] at h0
  rw [refNum_in (by omega)] at h1 h2
  rw [refNum_in (by omega)] at h3 h4
  rw [refNum_in (by omega)] at h5 h6
  rw [refNum_in (by omega), refNum_in (by omega)] at h7
  exact M.headOk_no h (by omega)

theorem refImage_no (s : ByteArray) (w : World) (hs : s.size ≤ maxLen) (h : M.headOk s = false) :
    Calls Tryz.prog 86 #[.string s] w fun e w' => e = .returned (.bool false) ∧ w = w' := by
  have hn := head_ref h
  have b0 := refNum_bd s 0
  have b1 := refNum_bd s 1
  have b2 := refNum_bd s 2
  have b3 := refNum_bd s 3
  have hs' := hs
  unfold maxLen at hs'
  go_enter Tryz.func86, Tryz.ntmps86
  go_wp2_with fail
  refine (refNumber_any s 1 _ hs (by omega)).mono ?_
  rintro e w' ⟨rfl, rfl⟩
  rw [show (1 : Int).toNat = 1 from rfl]
  generalize refNum s 1 = n at *
  go_wp2_with fail
  refine (refNumber_any s 2 _ hs (by omega)).mono ?_
  rintro e w' ⟨rfl, rfl⟩
  rw [show (2 : Int).toNat = 2 from rfl]
  generalize refNum s 2 = m at *
  go_wp2_with fail
  refine (refNumber_any s 3 _ hs (by omega)).mono ?_
  rintro e w' ⟨rfl, rfl⟩
  rw [show (3 : Int).toNat = 3 from rfl]
  generalize refNum s 3 = k at *
  go_wp2_with fail
  refine (refNumber_any s 0 _ hs (by omega)).mono ?_
  rintro e w' ⟨rfl, rfl⟩
  rw [show (0 : Int).toNat = 0 from rfl]
  generalize refNum s 0 = z at *
  have HN := hide hn
  by_cases c0 : z = 77
  · subst c0
    by_cases c1 : n < 1
    · go_wp2
      go_ret
      exact ⟨rfl, rfl⟩
    · by_cases c2 : 4 < n
      · go_wp2
        go_ret
        exact ⟨rfl, rfl⟩
      · by_cases c3 : m < 0
        · go_wp2
          go_ret
          exact ⟨rfl, rfl⟩
        · by_cases c4 : 24 < m
          · go_wp2
            go_ret
            exact ⟨rfl, rfl⟩
          · by_cases c5 : k < 1
            · go_wp2
              go_ret
              exact ⟨rfl, rfl⟩
            · by_cases c6 : 4 < k
              · go_wp2
                go_ret
                exact ⟨rfl, rfl⟩
              · have c7 : ((s.size : Int) != 4 + 3 * m + k) = true := by rw [bne_iff_ne]; omega
                clear hn
                go_wp2
                go_ret
                exact ⟨rfl, rfl⟩
  · have c0' : (z != 77) = true := by rw [bne_iff_ne]; exact c0
    clear hn
    go_wp2
    go_ret
    exact ⟨rfl, rfl⟩

theorem image_false1 {s : ByteArray} {k : Nat} (hk : k < M.bz s 2) (h : M.okOp (M.bz s (4 + 3 * k)) (M.bz s (5 + 3 * k)) (M.bz s (6 + 3 * k)) (M.bz s 1 + k) = false) : M.isImage s = false := by
  unfold M.isImage
  rw [show M.nodesOk s (M.bz s 2) = false from M.all_range_false (k := k) h hk]
  simp
theorem image_false2 {s : ByteArray} {k : Nat} (hk : k < M.bz s 3) (h : ¬ M.bz s (4 + 3 * M.bz s 2 + k) < M.bz s 1 + M.bz s 2) : M.isImage s = false := by
  unfold M.isImage
  rw [show M.outsOk s (M.bz s 3) = false from M.all_range_false (k := k) (by simpa using h) hk]
  simp
theorem nodes_next {s : ByteArray} {k : Nat} (h0 : M.nodesOk s k = true) (h : M.okOp (M.bz s (4 + 3 * k)) (M.bz s (5 + 3 * k)) (M.bz s (6 + 3 * k)) (M.bz s 1 + k) = true) : M.nodesOk s (k + 1) = true := by
  unfold M.nodesOk at *
  rw [M.all_range_succ, h0]; simpa using h
theorem outs_next {s : ByteArray} {k : Nat} (h0 : M.outsOk s k = true) (h : M.bz s (4 + 3 * M.bz s 2 + k) < M.bz s 1 + M.bz s 2) : M.outsOk s (k + 1) = true := by
  unfold M.outsOk at *
  rw [M.all_range_succ, h0]; simpa using h

set_option maxHeartbeats 800000 in
theorem refImage_yes (s : ByteArray) (w : World) (hs : s.size ≤ maxLen) (h : M.headOk s = true) :
    Calls Tryz.prog 86 #[.string s] w fun e w' => e = .returned (.bool (M.isImage s)) ∧ w = w' := by
  obtain ⟨h0, h1, h2, h3, h4, h5, h6⟩ := M.headOk_eq h
  have HH := hide h
  have HI : Hid (∀ b, M.isImage s = b → Ending.returned (.bool b) = .returned (.bool (M.isImage s))) := fun b e => by rw [e]
  have HF1 : Hid (∀ k, k < M.bz s 2 → M.okOp (M.bz s (4 + 3 * k)) (M.bz s (5 + 3 * k)) (M.bz s (6 + 3 * k)) (M.bz s 1 + k) = false → M.isImage s = false) := fun k hk e => image_false1 hk e
  have HF2 : Hid (∀ k, k < M.bz s 3 → ¬ M.bz s (4 + 3 * M.bz s 2 + k) < M.bz s 1 + M.bz s 2 → M.isImage s = false) := fun k hk e => image_false2 hk e
  have HN : Hid (∀ k, M.nodesOk s k = true → M.okOp (M.bz s (4 + 3 * k)) (M.bz s (5 + 3 * k)) (M.bz s (6 + 3 * k)) (M.bz s 1 + k) = true → M.nodesOk s (k + 1) = true) := fun k a b => nodes_next a b
  have HO : Hid (∀ k, M.outsOk s k = true → M.bz s (4 + 3 * M.bz s 2 + k) < M.bz s 1 + M.bz s 2 → M.outsOk s (k + 1) = true) := fun k a b => outs_next a b
  have HT : Hid (M.nodesOk s (M.bz s 2) = true → M.outsOk s (M.bz s 3) = true → M.isImage s = true) := fun a b => by unfold M.isImage; rw [HH.out, a, b]; rfl
  have H0 := hide h0
  have H6 := hide h6
  clear h
  go_enter Tryz.func86, Tryz.ntmps86
  clear h0
  go_wp2_with fail
  refine (refNumber_in s 1 _ hs (by omega) (by omega)).mono ?_
  rintro e w' ⟨rfl, rfl⟩
  rw [show (1 : Int).toNat = 1 from rfl]
  go_wp2_with fail
  refine (refNumber_in s 2 _ hs (by omega) (by omega)).mono ?_
  rintro e w' ⟨rfl, rfl⟩
  rw [show (2 : Int).toNat = 2 from rfl]
  go_wp2_with fail
  refine (refNumber_in s 3 _ hs (by omega) (by omega)).mono ?_
  rintro e w' ⟨rfl, rfl⟩
  rw [show (3 : Int).toNat = 3 from rfl]
  go_wp2_with fail
  refine (refNumber_in s 0 _ hs (by omega) (by omega)).mono ?_
  rintro e w' ⟨rfl, rfl⟩
  rw [show (0 : Int).toNat = 0 from rfl, H0.out]
  generalize hn : M.bz s 1 = n at *
  generalize hm : M.bz s 2 = m at *
  generalize hk : M.bz s 3 = c at *
  have Hn := hide hn
  have Hm := hide hm
  have Hk := hide hk
  clear hn hm hk
  have hsz : ((s.size : Int) != 4 + 3 * (m : Int) + (c : Int)) = false := by rw [bne_eq_false_iff_eq]; omega
  have hlen : s.size ≤ 80 := by omega
  have hlo : 4 + 3 * m + c ≤ s.size := by omega
  have hhi : s.size ≤ 4 + 3 * m + c := by omega
  clear h6
  go_wp2_with fail
  clear hsz
  go_loop [6] (fun i => ∃ k : Nat, k ≤ m ∧ i = .int .i64 k ∧ Hid (M.nodesOk s k = true)) (fun i => m - (intOf i).toNat)
  case atStart => exact ⟨0, by omega, rfl, rfl⟩
  case round =>
    obtain ⟨k, hk, rfl, hnod⟩ := hrel
    by_cases hlt : k < m
    · have b1 := M.bz_lt s (4 + 3 * k)
      have b2 := M.bz_lt s (5 + 3 * k)
      have b3 := M.bz_lt s (6 + 3 * k)
      go_wp2_with fail
      refine (refNumber_in s _ _ hs (by omega) (by omega)).mono ?_
      rintro e w' ⟨rfl, rfl⟩
      rw [show (4 + 3 * (k : Int)).toNat = 4 + 3 * k from by omega]
      go_wp2_with fail
      refine (refNumber_in s _ _ hs (by omega) (by omega)).mono ?_
      rintro e w' ⟨rfl, rfl⟩
      rw [show (5 + 3 * (k : Int)).toNat = 5 + 3 * k from by omega]
      go_wp2_with fail
      refine (refNumber_in s _ _ hs (by omega) (by omega)).mono ?_
      rintro e w' ⟨rfl, rfl⟩
      rw [show (6 + 3 * (k : Int)).toNat = 6 + 3 * k from by omega]
      go_wp2_with fail
      rw [show ((n : Int) + (k : Int)) = ((n + k : Nat) : Int) from by omega]
      refine (refAllowed_any _ _ _ _ _ b1 b2 b3 (by omega)).mono ?_
      rintro e w' ⟨rfl, rfl⟩
      cases hok : M.okOp (M.bz s (4 + 3 * k)) (M.bz s (5 + 3 * k)) (M.bz s (6 + 3 * k)) (n + k)
      · have HR := hide (HI.out false (HF1.out k hlt hok))
        clear hok
        go_wp2
        go_ret
        exact ⟨HR.out, rfl⟩
      · have HR := hide (HN.out k hnod.out hok)
        clear hok
        go_wp2
        go_round
        case rel => exact ⟨k + 1, by omega, by go_num, HR⟩
        case measure => simp [intOf]; omega
    · have : k = m := by omega
      subst this
      clear hlt
      go_wp2_with fail
      go_loop [8] (fun i => ∃ j : Nat, j ≤ c ∧ i = .int .i64 (4 + 3 * k + j : Nat) ∧ Hid (M.outsOk s j = true)) (fun i => s.size - (intOf i).toNat)
      case atStart => exact ⟨0, by omega, by go_num, rfl⟩
      case round =>
        obtain ⟨j, hj, rfl, hout⟩ := hrel
        by_cases hlt : j < c
        · have b1 := M.bz_lt s (4 + 3 * k + j)
          go_wp2_with fail
          refine (refNumber_in s _ _ hs (by omega) (by omega)).mono ?_
          rintro e w' ⟨rfl, rfl⟩
          rw [show (4 + 3 * (k : Int) + (j : Int)).toNat = 4 + 3 * k + j from by omega]
          by_cases hle : M.bz s (4 + 3 * k + j) < n + k
          · have HR := hide (HO.out j hout.out hle)
            generalize M.bz s (4 + 3 * k + j) = x at *
            go_wp2
            go_round
            case rel => exact ⟨j + 1, by omega, by go_num, HR⟩
            case measure => simp [intOf]; omega
          · have HR := hide (HI.out false (HF2.out j hlt hle))
            generalize M.bz s (4 + 3 * k + j) = x at *
            go_wp2
            go_ret
            exact ⟨HR.out, rfl⟩
        · have : j = c := by omega
          subst this
          have HR := hide (HI.out true (HT.out hnod.out hout.out))
          go_wp2
          go_ret
          exact ⟨HR.out, rfl⟩
theorem refImage_any (s : ByteArray) (w : World) (hs : s.size ≤ maxLen) :
    Calls Tryz.prog 86 #[.string s] w fun e w' => e = .returned (.bool (M.isImage s)) ∧ w = w' := by
  cases h : M.headOk s
  · have e : M.isImage s = false := by unfold M.isImage; rw [h]; rfl
    rw [e]
    exact refImage_no s w hs h
  · exact refImage_yes s w hs h
end Go.Proofs.YtjfmiomopfjecabGreat

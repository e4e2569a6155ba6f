/- The walks of the small functions of nets: those that reckon, and those that read a text or a list. -/
import Derived.Test.YtjfmiomopfjecaaSumWalks
import Derived.Test.YtjfmiomopfjecaaNetMath
import Derived.Laws.BytesString
namespace Go.Proofs.Ytjfmiomopfjecaa
open Go.RowKit

theorem ret_string {a b : ByteArray} (h : a = b) : Ending.returned (.string a) = .returned (.string b) := by rw [h]
theorem ret_bool {a b : Bool} (h : a = b) : Ending.returned (.bool a) = .returned (.bool b) := by rw [h]

theorem add_at (b j : Nat) : (⟨b, 0, none⟩ : Addr).add j = ⟨b, j, none⟩ := by
  unfold Addr.add
  split <;> simp_all

/-- the conversion of a new row of bytes into a text -/
theorem text_run (w : World) (ns : List Int) (n : Nat) (hn : ns.length = n) :
    (convert 63 9 (.slice (some ⟨w.heap.size, 0, none⟩) n n)).run Try.prog (w.alloc (.cells (ns.map (Value.int .u8)).toArray 5)) =
      .ok (.string ⟨(ns.map fun n => UInt8.ofNat n.toNat).toArray⟩) (w.alloc (.cells (ns.map (Value.int .u8)).toArray 5)) := by
  have hl : (loadCells ⟨w.heap.size, 0, none⟩ n).run Try.prog (w.alloc (.cells (ns.map (Value.int .u8)).toArray 5)) = .ok (ns.map (Value.int .u8)).toArray (w.alloc (.cells (ns.map (Value.int .u8)).toArray 5)) := by
    have h := run_loadCells_list (P := Try.prog) (w := w.alloc (.cells (ns.map (Value.int .u8)).toArray 5)) ⟨w.heap.size, 0, none⟩ (ns.map (Value.int .u8)) (by
      intro j v hj
      rw [add_at, World.cell?_alloc_at _ _ _ _ rfl]
      simpa using hj)
    rw [List.length_map, hn] at h
    exact h
  rw [run_convert_bytes_string _ 63 9 5 _ n n Try.underlying63 Try.underlying5 Try.underlying9, run_bytesToString _ _ n n ns hl]
  have e : ∀ (l : List Int) (r : ByteArray), l.foldl (fun r n => r.push (UInt8.ofNat n.toNat)) r = ⟨(r.data.toList ++ l.map fun n => UInt8.ofNat n.toNat).toArray⟩ := by
    intro l
    induction l with
    | nil => intro r; simp
    | cons x l ih => intro r; rw [List.foldl_cons, ih]; simp [ByteArray.push]
  rw [e]
  rfl

/-- a value as two bytes -/
theorem word_run (w : World) (v : Int) :
    (convert 63 9 (.slice (some ⟨w.heap.size, 0, none⟩) 2 2)).run Try.prog (w.alloc (.cells #[.int .u8 (M.unword v / 256), .int .u8 (M.unword v % 256)] 5)) =
      .ok (.string (M.wordText v)) (w.alloc (.cells #[.int .u8 (M.unword v / 256), .int .u8 (M.unword v % 256)] 5)) := text_run w [M.unword v / 256, M.unword v % 256] 2 rfl

theorem ret_pair {a b c d : Int} (h1 : a = b) (h2 : c = d) : Ending.returned (.tuple #[.int .i64 a, .int .i64 c]) = .returned (.tuple #[.int .i64 b, .int .i64 d]) := by rw [h1, h2]
theorem wordSplit_any (v : Int) (w : World) (h : M.IsVal v) :
    Calls Try.prog 108 #[.int .i64 v] w fun e w' => e = .returned (.tuple #[.int .i64 (M.unword v / 256), .int .i64 (M.unword v % 256)]) ∧ w = w' := by
  unfold M.IsVal at h
  by_cases hn : v < 0
  · have e := hide (show M.unword v = v + 65536 from if_pos hn)
    go_enter Try.func108, Try.ntmps108
    go_wp2
    go_ret2
    exact ⟨ret_pair (by rw [e.out]) (by rw [e.out]), rfl⟩
  · have e := hide (show M.unword v = v from if_neg hn)
    go_enter Try.func108, Try.ntmps108
    go_wp2
    go_ret2
    exact ⟨ret_pair (by rw [e.out]) (by rw [e.out]), rfl⟩
theorem wordText_any (v : Int) (w : World) (h : M.IsVal v) :
    Calls Try.prog 105 #[.int .i64 v] w fun e w' => e = .returned (.string (M.wordText v)) ∧ Below w.heap.size w w' := by
  have hr := word_run w v
  have hb := M.unword_bd h
  have h1 : 0 ≤ M.unword v / 256 ∧ M.unword v / 256 < 256 := by omega
  have h2 : 0 ≤ M.unword v % 256 ∧ M.unword v % 256 < 256 := by omega
  obtain ⟨h1a, h1b⟩ := h1
  obtain ⟨h2a, h2b⟩ := h2
  clear hb
  go_enter Try.func105, Try.ntmps105
  go_wp2_with fail
  refine (wordSplit_any v _ h).mono ?_
  rintro e w' ⟨rfl, rfl⟩
  generalize M.unword v / 256 = x at *
  generalize M.unword v % 256 = y at *
  go_wp2
  go_ret
  exact ⟨rfl, (Below.refl _ _).alloc (Nat.le_refl _) _⟩

theorem refBytes_any (v : Int) (w : World) (h : M.IsVal v) :
    Calls Try.prog 47 #[.int .i64 v] w fun e w' => e = .returned (.string (M.wordText v)) ∧ Below w.heap.size w w' := by
  have hr := word_run w v
  unfold M.IsVal at h
  by_cases hn : v < 0
  · have e : M.unword v = v + 65536 := if_pos hn
    rw [e] at hr
    go_enter Try.func47, Try.ntmps47
    go_wp2
    go_ret
    exact ⟨rfl, (Below.refl _ _).alloc (Nat.le_refl _) _⟩
  · have e : M.unword v = v := if_neg hn
    rw [e] at hr
    go_enter Try.func47, Try.ntmps47
    go_wp2
    go_ret
    exact ⟨rfl, (Below.refl _ _).alloc (Nat.le_refl _) _⟩

/- bytes of a text -/
theorem wordByte_any (s : ByteArray) (i : Int) (w : World) (_hs : s.size ≤ maxLen) (h0 : 0 ≤ i) :
    Calls Try.prog 71 #[.string s, .int .i64 i] w fun e w' => e = .returned (.int .i64 (M.bz s i.toNat)) ∧ w = w' := by
  unfold maxLen at _hs
  obtain ⟨n, rfl⟩ := Int.eq_ofNat_of_zero_le h0
  rw [Int.toNat_natCast]
  by_cases hn : n < s.size
  · have hb := M.bz_at s n hn
    have hb2 : s[n].toNat < 256 := s[n].toNat_lt
    have HB := hide hb
    clear hb
    go_enter Try.func71, Try.ntmps71
    go_wp2
    go_ret
    exact ⟨ret_int (by rw [HB.out]), rfl⟩
  · have hb := hide (M.bz_out s n (by omega))
    go_enter Try.func71, Try.ntmps71
    go_wp2
    go_ret
    exact ⟨ret_int (by rw [hb.out]; rfl), rfl⟩
def refNum (s : ByteArray) (i : Nat) : Int := if i < s.size then M.bz s i else -1
theorem refNum_in {s : ByteArray} {i : Nat} (h : i < s.size) : refNum s i = M.bz s i := if_pos h
theorem refNum_bd (s : ByteArray) (i : Nat) : -1 ≤ refNum s i ∧ refNum s i ≤ 255 := by
  have := M.bz_lt s i
  unfold refNum
  split <;> omega
theorem refNumber_any (s : ByteArray) (i : Int) (w : World) (_hs : s.size ≤ maxLen) (h0 : 0 ≤ i) :
    Calls Try.prog 42 #[.string s, .int .i64 i] w fun e w' => e = .returned (.int .i64 (refNum s i.toNat)) ∧ w = w' := by
  unfold maxLen at _hs
  obtain ⟨n, rfl⟩ := Int.eq_ofNat_of_zero_le h0
  rw [Int.toNat_natCast]
  by_cases hn : n < s.size
  · have hb := M.bz_at s n hn
    have hb2 : s[n].toNat < 256 := s[n].toNat_lt
    have HB := hide hb
    have HN := hide (refNum_in hn)
    clear hb
    go_enter Try.func42, Try.ntmps42
    go_wp2
    go_ret
    exact ⟨ret_int (by rw [HN.out, HB.out]), rfl⟩
  · have HN : Hid (refNum s n = -1) := if_neg hn
    go_enter Try.func42, Try.ntmps42
    go_wp2
    go_ret
    exact ⟨ret_int (by rw [HN.out]), rfl⟩
theorem refNumber_in (s : ByteArray) (i : Int) (w : World) (hs : s.size ≤ maxLen) (h0 : 0 ≤ i) (h1 : i < s.size) :
    Calls Try.prog 42 #[.string s, .int .i64 i] w fun e w' => e = .returned (.int .i64 (M.bz s i.toNat)) ∧ w = w' := by
  have h := refNumber_any s i w hs h0
  rw [refNum_in (by omega)] at h
  exact h

/- words as values -/
theorem wordValue_any (a b : Int) (w : World) (ha : 0 ≤ a) (ha' : a < 256) (hb : 0 ≤ b) (hb' : b < 256) :
    Calls Try.prog 101 #[.int .i64 a, .int .i64 b] w fun e w' => e = .returned (.int .i64 (M.wordVal (a * 256 + b))) ∧ w = w' := by
  by_cases h : 32767 < a * 256 + b
  · have HE : Hid (M.wordVal (a * 256 + b) = a * 256 + b - 65536) := if_pos h
    go_enter Try.func101, Try.ntmps101
    go_wp2
    go_ret
    exact ⟨ret_int HE.out.symm, rfl⟩
  · have HE : Hid (M.wordVal (a * 256 + b) = a * 256 + b) := if_neg h
    go_enter Try.func101, Try.ntmps101
    go_wp2
    go_ret
    exact ⟨ret_int HE.out.symm, rfl⟩
theorem refSigned_any (v : Int) (w : World) (h0 : 0 ≤ v) (h1 : v < 65536) :
    Calls Try.prog 43 #[.int .i64 v] w fun e w' => e = .returned (.int .i64 (M.wordVal v)) ∧ w = w' := by
  by_cases h : 32767 < v
  · have HE : Hid (M.wordVal v = v - 65536) := if_pos h
    go_enter Try.func43, Try.ntmps43
    go_wp2
    go_ret
    exact ⟨ret_int HE.out.symm, rfl⟩
  · have HE : Hid (M.wordVal v = v) := if_neg h
    go_enter Try.func43, Try.ntmps43
    go_wp2
    go_ret
    exact ⟨ret_int HE.out.symm, rfl⟩
theorem wordClip_any (v : Int) (w : World) :
    Calls Try.prog 112 #[.int .i64 v] w fun e w' => e = .returned (.int .i64 (M.clip v)) ∧ w = w' := by
  have HE := hide (show M.clip v = if v < -32768 then -32768 else if 32767 < v then 32767 else v from rfl)
  go_enter Try.func112, Try.ntmps112
  go_wp2
  all_goals go_ret
  all_goals refine ⟨ret_int ?_, rfl⟩
  all_goals rw [HE.out]
  all_goals repeat' split
  all_goals omega
theorem refClipped_any (v : Int) (w : World) :
    Calls Try.prog 67 #[.int .i64 v] w fun e w' => e = .returned (.int .i64 (M.clip v)) ∧ w = w' := by
  have HE := hide (show M.clip v = if v < -32768 then -32768 else if 32767 < v then 32767 else v from rfl)
  go_enter Try.func67, Try.ntmps67
  go_wp2
  all_goals go_ret
  all_goals refine ⟨ret_int ?_, rfl⟩
  all_goals rw [HE.out]
  all_goals repeat' split
  all_goals omega
theorem nodeGreater_any (a b : Int) (w : World) :
    Calls Try.prog 103 #[.int .i64 a, .int .i64 b] w fun e w' => e = .returned (.int .i64 (M.mx a b)) ∧ w = w' := by
  by_cases h : b < a
  · have HE := hide (show M.mx a b = a from if_pos h)
    go_enter Try.func103, Try.ntmps103
    go_wp2
    go_ret
    exact ⟨ret_int HE.out.symm, rfl⟩
  · have HE := hide (show M.mx a b = b from if_neg h)
    go_enter Try.func103, Try.ntmps103
    go_wp2
    go_ret
    exact ⟨ret_int HE.out.symm, rfl⟩
theorem nodeLesser_any (a b : Int) (w : World) :
    Calls Try.prog 113 #[.int .i64 a, .int .i64 b] w fun e w' => e = .returned (.int .i64 (M.mn a b)) ∧ w = w' := by
  by_cases h : a < b
  · have HE := hide (show M.mn a b = a from if_pos h)
    go_enter Try.func113, Try.ntmps113
    go_wp2
    go_ret
    exact ⟨ret_int HE.out.symm, rfl⟩
  · have HE := hide (show M.mn a b = b from if_neg h)
    go_enter Try.func113, Try.ntmps113
    go_wp2
    go_ret
    exact ⟨ret_int HE.out.symm, rfl⟩
theorem refGreater_any (a b : Int) (w : World) :
    Calls Try.prog 68 #[.int .i64 a, .int .i64 b] w fun e w' => e = .returned (.int .i64 (M.mx a b)) ∧ w = w' := by
  by_cases h : b < a
  · have HE := hide (show M.mx a b = a from if_pos h)
    go_enter Try.func68, Try.ntmps68
    go_wp2
    go_ret
    exact ⟨ret_int HE.out.symm, rfl⟩
  · have HE := hide (show M.mx a b = b from if_neg h)
    go_enter Try.func68, Try.ntmps68
    go_wp2
    go_ret
    exact ⟨ret_int HE.out.symm, rfl⟩
theorem nodeShift_any (a : Int) (b : Nat) (w : World) (_ha : M.IsVal a) (hb : b ≤ 15) :
    Calls Try.prog 102 #[.int .i64 a, .int .i64 b] w fun e w' => e = .returned (.int .i64 (a / 2 ^ b)) ∧ w = w' := by
  unfold M.IsVal at _ha
  go_enter Try.func102, Try.ntmps102
  go_wp2
  go_ret
  exact ⟨rfl, rfl⟩
theorem ofTwo_any (op : Nat) (x y : Int) (a b : Nat) (w : World) (hx : M.IsVal x) (hy : M.IsVal y) (h1 : 1 ≤ op) (h5 : op ≤ 5) :
    Calls Try.prog 104 #[.int .i64 op, .int .i64 x, .int .i64 y] w fun e w' => e = .returned (.int .i64 (M.nodeDo op x y a b)) ∧ w = w' := by
  have hm := M.mul_bd hx hy
  unfold M.IsVal at hx hy
  have hop : op = 1 ∨ op = 2 ∨ op = 3 ∨ op = 4 ∨ op = 5 := by omega
  rcases hop with rfl | rfl | rfl | rfl | rfl
  · have HE : Hid (M.nodeDo 1 x y a b = M.clip (x + y)) := rfl
    go_enter Try.func104, Try.ntmps104
    go_wp2_with fail
    refine (wordClip_any _ _).mono ?_
    rintro e w' ⟨rfl, rfl⟩
    go_wp2
    go_ret
    exact ⟨ret_int HE.out.symm, rfl⟩
  · have HE : Hid (M.nodeDo 2 x y a b = M.clip (x - y)) := rfl
    go_enter Try.func104, Try.ntmps104
    go_wp2_with fail
    refine (wordClip_any _ _).mono ?_
    rintro e w' ⟨rfl, rfl⟩
    go_wp2
    go_ret
    exact ⟨ret_int HE.out.symm, rfl⟩
  · have HE : Hid (M.nodeDo 3 x y a b = M.clip (x * y)) := rfl
    go_enter Try.func104, Try.ntmps104
    go_wp2_with fail
    refine (wordClip_any _ _).mono ?_
    rintro e w' ⟨rfl, rfl⟩
    go_wp2
    go_ret
    exact ⟨ret_int HE.out.symm, rfl⟩
  · have HE : Hid (M.nodeDo 4 x y a b = M.mx x y) := rfl
    go_enter Try.func104, Try.ntmps104
    go_wp2_with fail
    refine (nodeGreater_any _ _ _).mono ?_
    rintro e w' ⟨rfl, rfl⟩
    go_wp2
    go_ret
    exact ⟨ret_int HE.out.symm, rfl⟩
  · have HE : Hid (M.nodeDo 5 x y a b = M.mn x y) := rfl
    go_enter Try.func104, Try.ntmps104
    go_wp2_with fail
    refine (nodeLesser_any _ _ _).mono ?_
    rintro e w' ⟨rfl, rfl⟩
    go_wp2
    go_ret
    exact ⟨ret_int HE.out.symm, rfl⟩
theorem half_neg (v : Int) (h : v < 0) : (v - 1).tdiv 2 = v / 2 := by
  obtain ⟨n, rfl⟩ : ∃ n : Nat, v = -(n : Int) := ⟨v.natAbs, by omega⟩
  have e : (-(n : Int) - 1) = -((n + 1 : Nat) : Int) := by omega
  rw [e, Int.neg_tdiv, Int.tdiv_eq_ediv_of_nonneg (by omega)]
  omega
theorem over_succ (x : Int) (j : Nat) : x / 2 ^ (j + 1) = x / 2 ^ j / 2 := by
  rw [Int.pow_succ, ← Int.ediv_ediv_of_nonneg (Int.le_of_lt (Int.pow_pos (by omega)))]
theorem refOver_any (x : Int) (b : Nat) (w : World) (hx : M.IsVal x) (hb : b ≤ 255) :
    Calls Try.prog 69 #[.int .i64 x, .int .i64 b] w fun e w' => e = .returned (.int .i64 (x / 2 ^ b)) ∧ w = w' := by
  go_enter Try.func69, Try.ntmps69
  go_wp2
  go_loop [0, 1] (fun v c => ∃ (j : Nat) (y : Int), j ≤ b ∧ c = .int .i64 (b - j : Nat) ∧ v = .int .i64 y ∧ Hid (y = x / 2 ^ j) ∧ -32768 ≤ y ∧ y ≤ 32767) (fun _ c => (intOf c).toNat)
  case atStart => exact ⟨0, x, by omega, rfl, rfl, by show x = _; simp, hx.1, hx.2⟩
  case round =>
    obtain ⟨j, y, hj, rfl, rfl, hy, hy0, hy1⟩ := hrel
    by_cases hlt : j < b
    · have HE : Hid (y / 2 = x / 2 ^ (j + 1)) := by rw [hy.out, over_succ]; rfl
      by_cases hn : y < 0
      · have HH := hide (half_neg y hn)
        go_wp2
        go_round
        case rel => exact ⟨j + 1, y / 2, by omega, by go_num, by rw [HH.out], HE, by omega, by omega⟩
        case measure => simp [intOf]; omega
      · go_wp2
        go_round
        case rel => exact ⟨j + 1, y / 2, by omega, by go_num, rfl, HE, by omega, by omega⟩
        case measure => simp [intOf]; omega
    · have : j = b := by omega
      subst this
      go_wp2
      go_ret
      exact ⟨ret_int (by rw [hy.out]), rfl⟩
theorem refDone_any (op : Nat) (x y : Int) (a b : Nat) (w : World) (hx : M.IsVal x) (hy : M.IsVal y) (hop : op ≤ 255) (ha : a < 256) (hb : b < 256) :
    Calls Try.prog 45 #[.int .i64 op, .int .i64 x, .int .i64 y, .int .i64 a, .int .i64 b] w fun e w' => e = .returned (.int .i64 (M.nodeDo op x y a b)) ∧ w = w' := by
  have hm := M.mul_bd hx hy
  have hx' := hx
  unfold M.IsVal at hx hy
  have hops : op = 0 ∨ op = 1 ∨ op = 2 ∨ op = 3 ∨ op = 4 ∨ op = 5 ∨ op = 6 ∨ 7 ≤ op := by omega
  rcases hops with rfl | rfl | rfl | rfl | rfl | rfl | rfl | h7
  · have HE : Hid (M.nodeDo 0 x y a b = M.wordVal (256 * (a : Int) + b)) := by
      show M.wordVal ((a : Int) * 256 + b) = _
      rw [Int.mul_comm]
    go_enter Try.func45, Try.ntmps45
    go_wp2_with fail
    refine (refSigned_any _ _ (by omega) (by omega)).mono ?_
    rintro e w' ⟨rfl, rfl⟩
    go_wp2
    go_ret
    exact ⟨ret_int HE.out.symm, rfl⟩
  · have HE : Hid (M.nodeDo 1 x y a b = M.clip (x + y)) := rfl
    go_enter Try.func45, Try.ntmps45
    go_wp2_with fail
    refine (refClipped_any _ _).mono ?_
    rintro e w' ⟨rfl, rfl⟩
    go_wp2
    go_ret
    exact ⟨ret_int HE.out.symm, rfl⟩
  · have HE : Hid (M.nodeDo 2 x y a b = M.clip (x - y)) := rfl
    go_enter Try.func45, Try.ntmps45
    go_wp2_with fail
    refine (refClipped_any _ _).mono ?_
    rintro e w' ⟨rfl, rfl⟩
    go_wp2
    go_ret
    exact ⟨ret_int HE.out.symm, rfl⟩
  · have HE : Hid (M.nodeDo 3 x y a b = M.clip (x * y)) := rfl
    go_enter Try.func45, Try.ntmps45
    go_wp2_with fail
    refine (refClipped_any _ _).mono ?_
    rintro e w' ⟨rfl, rfl⟩
    go_wp2
    go_ret
    exact ⟨ret_int HE.out.symm, rfl⟩
  · have HE : Hid (M.nodeDo 4 x y a b = M.mx x y) := rfl
    go_enter Try.func45, Try.ntmps45
    go_wp2_with fail
    refine (refGreater_any _ _ _).mono ?_
    rintro e w' ⟨rfl, rfl⟩
    go_wp2
    go_ret
    exact ⟨ret_int HE.out.symm, rfl⟩
  · have HE : Hid (M.nodeDo 5 x y a b = x + y - M.mx x y) := by
      show M.mn x y = _
      unfold M.mn M.mx
      split <;> split <;> omega
    have hg : -32768 ≤ M.mx x y ∧ M.mx x y ≤ 32767 := by unfold M.mx; split <;> omega
    go_enter Try.func45, Try.ntmps45
    go_wp2_with fail
    refine (refGreater_any _ _ _).mono ?_
    rintro e w' ⟨rfl, rfl⟩
    generalize M.mx x y = g at *
    go_wp2
    go_ret
    exact ⟨ret_int HE.out.symm, rfl⟩
  · have HE : Hid (M.nodeDo 6 x y a b = x / 2 ^ b) := rfl
    go_enter Try.func45, Try.ntmps45
    go_wp2_with fail
    refine (refOver_any _ _ _ hx' (by omega)).mono ?_
    rintro e w' ⟨rfl, rfl⟩
    go_wp2
    go_ret
    exact ⟨ret_int HE.out.symm, rfl⟩
  · have HE : Hid (M.nodeDo op x y a b = M.mx x 0) := by
      unfold M.nodeDo
      rw [if_neg (by omega), if_neg (by omega), if_neg (by omega), if_neg (by omega), if_neg (by omega), if_neg (by omega), if_neg (by omega)]
      rfl
    go_enter Try.func45, Try.ntmps45
    go_wp2_with fail
    refine (refGreater_any _ _ _).mono ?_
    rintro e w' ⟨rfl, rfl⟩
    go_wp2
    go_ret
    exact ⟨ret_int HE.out.symm, rfl⟩
end Go.Proofs.Ytjfmiomopfjecaa

/- The walk of slotsref.Sum: the row of bits, and the rest of its division. -/
import Derived.Test.YtjfmiomopfjecaaSumWalks
namespace Go.Proofs.Ytjfmiomopfjecaa
open Go.RowKit

theorem infoInt : (Try.prog.info? 3).map (fun i => (i.zero, i.size, i.bytes)) = some (some (.int .i64 0), 1, 8) := by kernel_rfl

/-- a row of N bits -/
def tab (N : Nat) (f : Nat → Bool) : List Value := (List.range N).map fun j => Value.int .i64 ((f j).toNat : Int)
theorem tab_get {N : Nat} {f : Nat → Bool} {j : Nat} (h : j < N) : (tab N f)[j]? = some (Value.int .i64 ((f j).toNat : Int)) := by
  simp [tab, h]
theorem tab_congr {N : Nat} {f g : Nat → Bool} (h : ∀ j, j < N → f j = g j) : tab N f = tab N g := by
  unfold tab
  refine List.map_congr_left fun j hj => ?_
  rw [h j (List.mem_range.1 hj)]
theorem tab_set (N : Nat) (f : Nat → Bool) (j : Nat) (b : Bool) : (tab N f).set j (Value.int .i64 (b.toNat : Int)) = tab N (fun x => if x = j then b else f x) := by
  apply List.ext_getElem?
  intro k
  rw [List.getElem?_set]
  by_cases hk : k < N
  · by_cases e : j = k
    · subst e; simp [tab, hk]
    · have e' : ¬ k = j := fun h => e h.symm
      simp [tab, hk, e, e']
  · by_cases e : j = k
    · subst e; simp [tab, hk]
    · simp [tab, hk, e]
theorem tab_zero (n : Nat) : (madeCells (Value.int .i64 0).cells (n * 1)).toList = tab n (fun _ => false) := by
  show (madeCells #[Value.int .i64 0] (n * 1)).toList = _
  rw [Nat.mul_one, toList_madeCells_one]
  apply List.ext_getElem?
  intro k
  by_cases hk : k < n <;> simp [tab, hk]
theorem not_int (b : Bool) : (1 - (b.toNat : Int)) = ((!b).toNat : Int) := by cases b <;> rfl

theorem bit_int (c m : Nat) (h : c < 256) : bits BinOp.and IntKind.i64 ((c : Int) / 2 ^ m) 1 = ((c.testBit m).toNat : Int) := by
  have hd : c / 2 ^ m ≤ c := Nat.div_le_self _ _
  have e := M.and_i64 (c / 2 ^ m) 1 (by omega) (by omega)
  have e2 : ((c / 2 ^ m : Nat) : Int) = (c : Int) / 2 ^ m := by simp
  rw [e2] at e
  refine Eq.trans e ?_
  rw [Nat.and_one_is_mod, Nat.testBit_eq_decide_div_mod_eq]
  rcases Nat.mod_two_eq_zero_or_one (c / 2 ^ m) with h | h <;> simp [h]
theorem mbit_at (s : ByteArray) (k : Nat) (h : k / 8 < s.size) : M.mbit s.data.toList k = (s[k / 8]).toNat.testBit (7 - k % 8) := by
  unfold M.mbit
  rw [List.getD_eq_getElem?_getD, List.getElem?_eq_getElem (by simpa using h)]
  rfl
theorem stored_bit {w wr : World} {N k : Nat} {f g : Nat → Bool} {b : Bool} {x : Int} (hown : wr.ownsRow w.heap.size 3 1 (.slice (some ⟨w.heap.size, 0, none⟩) N N) N (tab N f))
    (hbel : Below w.heap.size w wr) (hx : x = (b.toNat : Int)) (hg : ∀ j, j < N → (if j = k then b else f j) = g j) :
    (wr.setCell ⟨w.heap.size, k, none⟩ (.int .i64 x)).ownsRow w.heap.size 3 1 (.slice (some ⟨w.heap.size, 0, none⟩) N N) N (tab N g) ∧ Below w.heap.size w (wr.setCell ⟨w.heap.size, k, none⟩ (.int .i64 x)) := by
  subst hx
  have h := (hown.stored k (.int .i64 (b.toNat : Int))).1
  rw [tab_set, tab_congr hg] at h
  exact ⟨h, hbel.setCell (Nat.le_refl _) _⟩

theorem flips {l : List UInt8} {w wr : World} {N k : Nat} (hown : wr.ownsRow w.heap.size 3 1 (.slice (some ⟨w.heap.size, 0, none⟩) N N) N (tab N (M.rowAt l k)))
    (hbel : Below w.heap.size w wr) (hb : M.rowAt l k k = true) :
    ((((wr.setCell ⟨w.heap.size, k, none⟩ (.int .i64 0)).setCell ⟨w.heap.size, k + 4, none⟩ (.int .i64 (1 - ((M.rowAt l k (k + 4)).toNat : Int)))).setCell ⟨w.heap.size, k + 11, none⟩ (.int .i64 (1 - ((M.rowAt l k (k + 11)).toNat : Int)))).setCell ⟨w.heap.size, k + 16, none⟩ (.int .i64 (1 - ((M.rowAt l k (k + 16)).toNat : Int)))).ownsRow w.heap.size 3 1 (.slice (some ⟨w.heap.size, 0, none⟩) N N) N (tab N (M.rowAt l (k + 1))) ∧
    Below w.heap.size w ((((wr.setCell ⟨w.heap.size, k, none⟩ (.int .i64 0)).setCell ⟨w.heap.size, k + 4, none⟩ (.int .i64 (1 - ((M.rowAt l k (k + 4)).toNat : Int)))).setCell ⟨w.heap.size, k + 11, none⟩ (.int .i64 (1 - ((M.rowAt l k (k + 11)).toNat : Int)))).setCell ⟨w.heap.size, k + 16, none⟩ (.int .i64 (1 - ((M.rowAt l k (k + 16)).toNat : Int)))) := by
  have h1 := stored_bit (k := k) (x := 0) (b := false) (g := fun j => if j = k then false else M.rowAt l k j) hown hbel rfl (fun _ _ => rfl)
  have h2 := stored_bit (k := k + 4) (b := !M.rowAt l k (k + 4)) (g := fun j => if j = k + 4 then !M.rowAt l k (k + 4) else if j = k then false else M.rowAt l k j) h1.1 h1.2 (not_int _) (fun _ _ => rfl)
  have h3 := stored_bit (k := k + 11) (b := !M.rowAt l k (k + 11)) (g := fun j => if j = k + 11 then !M.rowAt l k (k + 11) else if j = k + 4 then !M.rowAt l k (k + 4) else if j = k then false else M.rowAt l k j) h2.1 h2.2 (not_int _) (fun _ _ => rfl)
  refine stored_bit (k := k + 16) (b := !M.rowAt l k (k + 16)) h3.1 h3.2 (not_int _) ?_
  intro j _
  show _ = if M.rowAt l k k then (if j = k then false else M.rowAt l k j ^^ decide (j = k + 4 ∨ j = k + 11 ∨ j = k + 16)) else M.rowAt l k j
  rw [if_pos hb]
  by_cases e16 : j = k + 16
  · subst e16; simp
  · by_cases e11 : j = k + 11
    · subst e11; simp
    · by_cases e4 : j = k + 4
      · subst e4; simp
      · simp [e16, e11, e4]

set_option maxHeartbeats 1000000 in
theorem refSum_any (s : ByteArray) (w : World) (hs : s.size ≤ 1048576) :
    Calls Try.prog 13 #[.string s] w fun e w' => e = .returned (.int .i64 (M.crc s.data.toList)) ∧ Below w.heap.size w w' := by
  obtain ⟨i0, hi, hz0, hz1, hz2⟩ := info_parts infoInt
  go_enter Try.func13, Try.ntmps13
  go_wp2_with (at_make; refine wpList_make_full _ rfl _ _ 52 rfl w.heap.size 3 i0 (.int .i64 0) 1 Try.underlying52 hi hz0 hz1 .i64 .i64 _ _ (8 * s.size + 16) rfl rfl (by omega) (by omega) (by rw [hz2]; omega) (by unfold maxLen; omega) (Nat.le_refl _) ?_; intro w1 hown1 hgrow1)
  rw [tab_zero] at hown1
  have hbel1 : Below w.heap.size w w1 := (Below.refl _ _).grown hgrow1 (Nat.le_refl _) (by intro k hk; cases hk)
  clear hgrow1 hi hz0 hz1 hz2
  go_loopw [5] (fun i wr => ∃ k : Nat, k ≤ 8 * s.size ∧ i = .int .i64 k ∧ wr.ownsRow w.heap.size 3 1 (.slice (some ⟨w.heap.size, 0, none⟩) (8 * s.size + 16) (8 * s.size + 16)) (8 * s.size + 16) (tab (8 * s.size + 16) (fun j => decide (j < k) && M.mbit s.data.toList j)) ∧ Below w.heap.size w wr) (fun i _ => 8 * s.size - (intOf i).toNat)
  case atStart => exact ⟨0, by omega, rfl, by simpa using hown1, hbel1⟩
  case round =>
    obtain ⟨k, hk, rfl, hown, hbel⟩ := hrel
    clear hown1 hbel1
    by_cases hlt : k < 8 * s.size
    · have hfr := fun j => hown.frozenAt j
      have hcl := hown.cellAt k (by omega)
      rw [tab_get (by omega)] at hcl
      have h8 : k / 8 < s.size := by omega
      have hb : (s[k / 8]).toNat < 256 := (s[k / 8]).toNat_lt
      have R := stored_bit (k := k) (x := bits BinOp.and IntKind.i64 ((s[k / 8].toNat : Int) / 2 ^ (7 - k % 8)) 1) (g := fun j => decide (j < k + 1) && M.mbit s.data.toList j) hown hbel ((bit_int _ _ hb).trans (by rw [← mbit_at s k h8])) (by
        intro j _
        by_cases e : j = k
        · subst e; simp
        · have : (j < k + 1) = (j < k) := by apply propext; omega
          simp [e, this])
      have HR := hide R
      clear R hown hbel
      go_wp2
      go_roundw
      case rel => exact ⟨k + 1, by omega, by go_num, (unhide HR).1, (unhide HR).2⟩
      case measure => simp [intOf]; omega
    · have hk' : k = 8 * s.size := by omega
      subst hk'
      have hown2 : wr.ownsRow w.heap.size 3 1 (.slice (some ⟨w.heap.size, 0, none⟩) (8 * s.size + 16) (8 * s.size + 16)) (8 * s.size + 16) (tab (8 * s.size + 16) (fun j => M.mbit s.data.toList j ^^ decide (j < 0))) := by
        rw [tab_congr (g := fun j => M.mbit s.data.toList j ^^ decide (j < 0))] at hown
        · exact hown
        · intro j _
          by_cases e : j < 8 * s.size
          · simp [e]
          · rw [M.mbit_out _ _ (by simp; omega)]; simp
      clear hown hlt
      go_wp2
      go_loopw [6] (fun i wr => ∃ k : Nat, k ≤ 16 ∧ i = .int .i64 k ∧ wr.ownsRow w.heap.size 3 1 (.slice (some ⟨w.heap.size, 0, none⟩) (8 * s.size + 16) (8 * s.size + 16)) (8 * s.size + 16) (tab (8 * s.size + 16) (fun j => M.mbit s.data.toList j ^^ decide (j < k))) ∧ Below w.heap.size w wr) (fun i _ => 16 - (intOf i).toNat)
      case atStart => exact ⟨0, by omega, rfl, hown2, hbel⟩
      case round =>
        obtain ⟨k, hk, rfl, hown, hbel⟩ := hrel
        clear hown2
        by_cases hlt : k < 16
        · have hfr := fun j => hown.frozenAt j
          have hcl := hown.cellAt k (by omega)
          rw [tab_get (by omega)] at hcl
          have hbb := Bool.toNat_le (M.mbit s.data.toList k ^^ decide (k < k))
          have R := stored_bit (k := k) (x := 1 - (((M.mbit s.data.toList k ^^ decide (k < k)).toNat : Nat) : Int)) (g := fun j => M.mbit s.data.toList j ^^ decide (j < k + 1)) hown hbel (not_int _) (by
            intro j _
            by_cases e : j = k
            · subst e; simp
            · have : (j < k + 1) = (j < k) := by apply propext; omega
              simp [e, this])
          generalize (M.mbit s.data.toList k ^^ decide (k < k)).toNat = v at hcl R hbb
          have HR := hide R
          clear R hown hbel
          go_wp2
          go_roundw
          case rel => exact ⟨k + 1, by omega, by go_num, (unhide HR).1, (unhide HR).2⟩
          case measure => simp [intOf]; omega
        · have hk' : k = 16 := by omega
          subst hk'
          clear hlt
          have hown3 : wr.ownsRow w.heap.size 3 1 (.slice (some ⟨w.heap.size, 0, none⟩) (8 * s.size + 16) (8 * s.size + 16)) (8 * s.size + 16) (tab (8 * s.size + 16) (M.rowAt s.data.toList 0)) := hown
          clear hown
          go_wp2
          go_loopw [7] (fun i wr => ∃ k : Nat, k ≤ 8 * s.size ∧ i = .int .i64 k ∧ wr.ownsRow w.heap.size 3 1 (.slice (some ⟨w.heap.size, 0, none⟩) (8 * s.size + 16) (8 * s.size + 16)) (8 * s.size + 16) (tab (8 * s.size + 16) (M.rowAt s.data.toList k)) ∧ Below w.heap.size w wr) (fun i _ => 8 * s.size - (intOf i).toNat)
          case atStart => exact ⟨0, by omega, rfl, hown3, hbel⟩
          case round =>
            obtain ⟨k, hk, rfl, hown, hbel⟩ := hrel
            clear hown3
            by_cases hlt : k < 8 * s.size
            · have hfr := fun j => hown.frozenAt j
              have hcl0 := hown.cellAt k (by omega)
              rw [tab_get (by omega)] at hcl0
              cases hbit : M.rowAt s.data.toList k k
              · rw [hbit] at hcl0
                simp only [Bool.toNat_false] at hcl0
                rw [tab_congr (g := M.rowAt s.data.toList (k + 1)) (fun j _ => by simp [M.rowAt, hbit])] at hown
                have HR := hide hown
                have HB := hide hbel
                clear hown hbel hbit
                go_wp2
                go_roundw
                case rel => exact ⟨k + 1, by omega, by go_num, unhide HR, unhide HB⟩
                case measure => simp [intOf]; omega
              · rw [hbit] at hcl0
                simp only [Bool.toNat_true] at hcl0
                have hcl4 := hown.cellAt (k + 4) (by omega)
                rw [tab_get (by omega)] at hcl4
                have hcl11 := hown.cellAt (k + 11) (by omega)
                rw [tab_get (by omega)] at hcl11
                have hcl16 := hown.cellAt (k + 16) (by omega)
                rw [tab_get (by omega)] at hcl16
                have R := flips hown hbel hbit
                have hb4 := Bool.toNat_le (M.rowAt s.data.toList k (k + 4))
                have hb11 := Bool.toNat_le (M.rowAt s.data.toList k (k + 11))
                have hb16 := Bool.toNat_le (M.rowAt s.data.toList k (k + 16))
                generalize (M.rowAt s.data.toList k (k + 4)).toNat = b4 at *
                generalize (M.rowAt s.data.toList k (k + 11)).toNat = b11 at *
                generalize (M.rowAt s.data.toList k (k + 16)).toNat = b16 at *
                have HR := hide R
                clear R hown hbel hbit
                go_wp2
                go_roundw
                case rel => exact ⟨k + 1, by omega, by go_num, (unhide HR).1, (unhide HR).2⟩
                case measure => simp [intOf]; omega
            · have hk' : k = 8 * s.size := by omega
              subst hk'
              clear hlt
              have hlen : 8 * s.data.toList.length = 8 * s.size := by simp
              go_wp2
              go_loop [8, 9] (fun v i => ∃ k x : Nat, k ≤ 16 ∧ i = .int .i64 (8 * s.size + k : Nat) ∧ v = .int .i64 x ∧ Hid (x = M.tail s.data.toList k) ∧ x < 65536) (fun _ i => 8 * s.size + 16 - (intOf i).toNat)
              case atStart => exact ⟨0, 0, by omega, by go_num, rfl, (M.tail_zero _).symm, by omega⟩
              case round =>
                obtain ⟨k, x, hk, rfl, rfl, hx, hx1⟩ := hrel
                by_cases hlt : k < 16
                · have hcl := hown.cellAt (8 * s.size + k) (by omega)
                  rw [tab_get (by omega)] at hcl
                  have HT : Hid (2 * x + (M.rowAt s.data.toList (8 * s.size) (8 * s.size + k)).toNat = M.tail s.data.toList (k + 1)) := by
                    rw [M.tail_succ _ _ hlt, hlen, hx.out]; rfl
                  have hT := M.tail_lt s.data.toList (k + 1)
                  rw [← HT.out] at hT
                  have hb := Bool.toNat_le (M.rowAt s.data.toList (8 * s.size) (8 * s.size + k))
                  generalize (M.rowAt s.data.toList (8 * s.size) (8 * s.size + k)).toNat = b at *
                  clear hown hlen
                  go_wp2
                  go_round
                  case rel => exact ⟨k + 1, 2 * x + b, by omega, by go_num, by go_num, HT, hT⟩
                  case measure => simp [intOf]; omega
                · have hk' : k = 16 := by omega
                  subst hk'
                  clear hlt hlen
                  go_wp2
                  go_ret
                  exact ⟨ret_int (by rw [hx.out, M.tail_end]), hbel⟩
end Go.Proofs.Ytjfmiomopfjecaa

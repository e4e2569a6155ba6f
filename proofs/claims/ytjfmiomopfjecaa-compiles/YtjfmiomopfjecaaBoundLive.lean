/- slotsref.lives. -/
import Derived.Test.YtjfmiomopfjecaaBoundLeaf
import Derived.Test.YtjfmiomopfjecaaCodeRefExec
namespace Go.Proofs.Ytjfmiomopfjecaa
open Go.RowKit

theorem bl_congr {p r : Nat → Bool} {L : Nat} (h : ∀ i, i < L → p i = r i) : bl p L = bl r L := by
  unfold bl
  exact List.map_congr_left fun j hj => h j (List.mem_range.1 hj)
theorem bl_set (p : Nat → Bool) (L j : Nat) (x : Bool) : (boolCells (bl p L)).set j (.bool x) = boolCells (bl (fun i => if i = j then x else p i) L) := by
  apply List.ext_getElem?
  intro k
  rw [List.getElem?_set]
  by_cases hk : k < L
  · by_cases e : j = k
    · subst e; simp [boolCells, bl, hk]
    · have e' : ¬ k = j := fun h => e h.symm
      simp [boolCells, bl, hk, e, e']
  · by_cases e : j = k
    · subst e; simp [boolCells, bl, hk]
    · simp [boolCells, bl, hk, e]
theorem stored_bool {wr : World} {base g L j : Nat} {f f' : Nat → Bool} {x : Bool} (hown : wr.ownsRow base 4 1 (.slice (some ⟨g, 0, none⟩) L L) L (boolCells (bl f L)))
    (h : ∀ i, i < L → (if i = j then x else f i) = f' i) :
    (wr.setCell ⟨g, j, none⟩ (.bool x)).ownsRow base 4 1 (.slice (some ⟨g, 0, none⟩) L L) L (boolCells (bl f' L)) := by
  have e := (hown.stored j (.bool x)).1
  rw [bl_set, bl_congr h] at e
  exact e
theorem made_bools (n : Nat) : (madeCells (Value.bool false).cells (n * 1)).toList = boolCells (bl (fun _ => false) n) := by
  show (madeCells #[Value.bool false] (n * 1)).toList = _
  rw [Nat.mul_one, toList_madeCells_one]
  unfold boolCells bl
  rw [List.map_map]
  apply List.ext_getElem?
  intro i
  by_cases h : i < n
  · simp [h]
  · simp [h]

/-- what stands in the list, the nodes from q on being done -/
def lv (s : ByteArray) (q j : Nat) : Bool := if q ≤ j then M.liveB s j else false
def opLive (s : ByteArray) (q k : Nat) : Bool := decide (q < k) && (decide (M.bz s 1 + q ∈ M.opsAt s k) && M.liveB s k)
def inn (s : ByteArray) (q k : Nat) : Bool := decide (M.bz s 1 + q ∈ M.outL s) || M.anyTo (opLive s q) k
theorem inn_start (s : ByteArray) (q : Nat) : inn s q (q + 1) = decide (M.bz s 1 + q ∈ M.outL s) := by
  unfold inn
  rw [M.anyTo_low, Bool.or_false]
  intro j hj
  unfold opLive
  rw [decide_eq_false (by omega)]
  rfl
theorem inn_succ {s : ByteArray} {q k : Nat} (h : q < k) : inn s q (k + 1) = (inn s q k || (decide (M.bz s 1 + q ∈ M.opsAt s k) && M.liveB s k)) := by
  unfold inn
  rw [M.anyTo_succ, Bool.or_assoc]
  congr 2
  unfold opLive
  rw [decide_eq_true h, Bool.true_and]
theorem inn_end {s : ByteArray} {q : Nat} (h : q < M.bz s 2) : inn s q (M.bz s 2) = M.liveB s q := (M.live_eq s h).symm

set_option maxHeartbeats 1600000 in
theorem refLives_any (s : ByteArray) (n m : Nat) (w : World) (h : M.isImage s = true) (hn : M.bz s 1 = n) (hm : M.bz s 2 = m) :
    Calls Try.prog 89 #[.string s] w fun e w' => ∃ v, e = .returned v ∧ HoldsRow w' v m (boolCells (bl (M.liveB s) m)) ∧ Below w.heap.size w w' := by
  obtain ⟨h0, h1, h2, h3, h4, h5, h6⟩ := M.headOk_eq (M.image_headOk h)
  have hs : s.size ≤ maxLen := by unfold maxLen; omega
  rw [hn] at h1 h2
  rw [hm] at h3
  have HOPR := hide (fun (i v : Nat) (k u : Int) w (hi : i < m) (hk : k = i) (hu : u = v) (hv : v ≤ 1000) => refOperand_any s i v k u w h (by rw [hm]; exact hi) hk hu hv)
  have HOUT := hide (fun (v : Nat) (u : Int) w (hu : u = v) => refOutput_any s v u w h hu)
  have HN1 : Hid (∀ w, Calls Try.prog 42 #[.string s, .int .i64 1] w fun e w' => e = .returned (.int .i64 n) ∧ w = w') := by
    intro w; have := refNum_at s 1 1 w hs rfl (by omega); rw [hn] at this; exact this
  have HN2 : Hid (∀ w, Calls Try.prog 42 #[.string s, .int .i64 2] w fun e w' => e = .returned (.int .i64 m) ∧ w = w') := by
    intro w; have := refNum_at s 2 2 w hs rfl (by omega); rw [hm] at this; exact this
  have HST : Hid (∀ q, inn s q (q + 1) = decide (n + q ∈ M.outL s)) := by rw [← hn]; exact inn_start s
  have HSU : Hid (∀ q k, q < k → inn s q (k + 1) = (inn s q k || (decide (n + q ∈ M.opsAt s k) && M.liveB s k))) := by rw [← hn]; exact fun q k hh => inn_succ hh
  have HEN : Hid (∀ q, q < m → inn s q m = M.liveB s q) := by rw [← hm]; exact fun q hh => inn_end hh
  clear h h0 h4 h5 h6 hn hm
  obtain ⟨i0, hi, hz0, hz1, hz2⟩ := info_parts infoBl
  go_enter Try.func89, Try.ntmps89
  go_wp2_with fail
  refine (unhide HN1 _).mono ?_
  rintro e w' ⟨rfl, rfl⟩
  go_wp2_with fail
  refine (unhide HN2 _).mono ?_
  rintro e w' ⟨rfl, rfl⟩
  go_wp2_with (at_make; refine wpList_make_full _ rfl _ _ 92 rfl w.heap.size 4 i0 (.bool false) 1 Try.underlying92 hi hz0 hz1 .i64 .i64 _ _ m rfl rfl rfl rfl (by rw [hz2]; omega) (by unfold maxLen; omega) (Nat.le_refl _) ?_; intro w1 hown1 hgrow1)
  rw [made_bools] at hown1
  have hbel1 : Below w.heap.size w w1 := (Below.refl _ _).grown hgrow1 (Nat.le_refl _) (by intro k hk; cases hk)
  have hown2 : w1.ownsRow w.heap.size 4 1 (.slice (some ⟨w.heap.size, 0, none⟩) m m) m (boolCells (bl (lv s m) m)) := by
    rw [bl_congr (r := fun _ => false) (fun i hi => by unfold lv; rw [if_neg (by omega)])]
    exact hown1
  have HO1 := hide hown2
  have HB1 := hide hbel1
  clear hgrow1 hi hz0 hz1 hz2 hown1 hbel1 hown2
  go_loopw [6] (fun i wr => ∃ q : Nat, q ≤ m ∧ i = .int .i64 ((q : Int) - 1) ∧ wr.ownsRow w.heap.size 4 1 (.slice (some ⟨w.heap.size, 0, none⟩) m m) m (boolCells (bl (lv s q) m)) ∧ Below w.heap.size w wr) (fun i _ => (intOf i + 1).toNat)
  case atStart => exact ⟨m, Nat.le_refl _, rfl, unhide HO1, unhide HB1⟩
  case round =>
    clear HO1 HB1
    obtain ⟨q1, hq1, hi, hown, hbel⟩ := hrel
    cases q1 with
    | zero =>
      subst hi
      have HO := hide hown
      have HB := hide hbel
      clear hown hbel
      go_wp2
      go_ret
      refine ⟨_, rfl, ?_, unhide HB⟩
      have := holdsRow_own (unhide HO)
      rw [bl_congr (r := M.liveB s) (fun i _ => by unfold lv; rw [if_pos (by omega)])] at this
      exact this
    | succ q =>
      have hlt : q < m := by omega
      have ei : ((q + 1 : Nat) : Int) - 1 = (q : Int) := by omega
      rw [ei] at hi
      subst hi
      have hfr := fun j => hown.frozenAt j
      have hcl := hown.cellAt q (by omega)
      rw [bl_at hlt] at hcl
      have HST1 := hide (HST.out q)
      have HR := hide (stored_bool (j := q) (x := decide (n + q ∈ M.outL s)) (f' := fun j => if j = q then inn s q (q + 1) else lv s (q + 1) j) hown (by
        intro i _
        rw [HST1.out]))
      have hsz := hbel.size
      have HB := hide hbel
      clear hown hbel ei
      go_wp2_with fail
      refine (unhide HOUT (n + q) _ _ (by omega)).mono ?_
      rintro e w' ⟨rfl, rfl⟩
      have HB2 : Hid (Below w.heap.size w (wr.setCell ⟨w.heap.size, q, none⟩ (.bool (decide (n + q ∈ M.outL s))))) := (unhide HB).setCell (Nat.le_refl _) _
      clear HST1
      generalize decide (n + q ∈ M.outL s) = x0 at *
      go_wp2_with fail
      go_loopw [7] (fun i wz => ∃ k : Nat, q + 1 ≤ k ∧ k ≤ m ∧ i = .int .i64 k ∧ wz.ownsRow w.heap.size 4 1 (.slice (some ⟨w.heap.size, 0, none⟩) m m) m (boolCells (bl (fun j => if j = q then inn s q k else lv s (q + 1) j) m)) ∧ Below w.heap.size w wz) (fun i _ => m - (intOf i).toNat)
      case atStart => exact ⟨q + 1, Nat.le_refl _, by omega, by go_num, unhide HR, unhide HB2⟩
      case round =>
        clear HR HB2 HB hfr hcl hsz
        obtain ⟨k, hk0, hk, rfl, hown, hbel⟩ := hrel
        have HB := hide hbel
        have hsz := hbel.size
        by_cases hkm : k < m
        · have hfr := fun j => hown.frozenAt j
          have hck := hown.cellAt k (by omega)
          rw [bl_at hkm] at hck
          have hcq := hown.cellAt q (by omega)
          rw [bl_at hlt] at hcq
          have ek : (if k = q then inn s q k else lv s (q + 1) k) = M.liveB s k := by
            rw [if_neg (by omega)]
            unfold lv
            rw [if_pos (by omega)]
          rw [ek] at hck
          have HS1 := hide (HSU.out q k (by omega))
          have HSET : Hid (inn s q (k + 1) = true → (wr.setCell ⟨w.heap.size, q, none⟩ (.bool true)).ownsRow w.heap.size 4 1 (.slice (some ⟨w.heap.size, 0, none⟩) m m) m (boolCells (bl (fun j => if j = q then inn s q (k + 1) else lv s (q + 1) j) m))) := by
            intro ht
            refine stored_bool (j := q) hown ?_
            intro i _
            by_cases e : i = q
            · rw [if_pos e, if_pos e, ht]
            · rw [if_neg e, if_neg e, if_neg e]
          have HSAME : Hid (inn s q (k + 1) = inn s q k → wr.ownsRow w.heap.size 4 1 (.slice (some ⟨w.heap.size, 0, none⟩) m m) m (boolCells (bl (fun j => if j = q then inn s q (k + 1) else lv s (q + 1) j) m))) := by
            intro ht
            rw [ht]
            exact hown
          clear hown hbel ek
          go_wp2_with fail
          refine (unhide HOPR k (n + q) _ _ _ hkm rfl (by omega) (by omega)).mono ?_
          rintro e w' ⟨rfl, rfl⟩
          generalize decide (n + q ∈ M.opsAt s k) = x at *
          cases x
          · have HR := hide (HSAME.out (by rw [HS1.out]; simp))
            clear HSET HSAME HS1
            go_wp2
            go_roundw
            case rel => exact ⟨k + 1, by omega, by omega, by go_num, unhide HR, unhide HB⟩
            case measure => simp [intOf]; omega
          · cases hl : M.liveB s k
            · have HR := hide (HSAME.out (by rw [HS1.out, hl]; simp))
              rw [hl] at hck
              clear HSET HSAME HS1 hl
              go_wp2
              go_roundw
              case rel => exact ⟨k + 1, by omega, by omega, by go_num, unhide HR, unhide HB⟩
              case measure => simp [intOf]; omega
            · have HR := hide (HSET.out (by rw [HS1.out, hl]; simp))
              rw [hl] at hck
              have HB3 := hide ((unhide HB).setCell (p := ⟨w.heap.size, q, none⟩) (Nat.le_refl _) (.bool true))
              clear HSET HSAME HS1 hl
              go_wp2
              go_roundw
              case rel => exact ⟨k + 1, by omega, by omega, by go_num, unhide HR, unhide HB3⟩
              case measure => simp [intOf]; omega
        · have hke : m = k := by omega
          subst hke
          have HR : Hid (wr.ownsRow w.heap.size 4 1 (.slice (some ⟨w.heap.size, 0, none⟩) m m) m (boolCells (bl (lv s q) m))) := by
            rw [bl_congr (r := fun j => if j = q then inn s q m else lv s (q + 1) j)]
            · exact hown
            · intro i _
              by_cases e : i = q
              · subst e
                rw [if_pos rfl, HEN.out i hlt]
                unfold lv
                rw [if_pos (Nat.le_refl _)]
              · rw [if_neg e]
                unfold lv
                by_cases hqi : q + 1 ≤ i
                · rw [if_pos hqi, if_pos (by omega)]
                · rw [if_neg hqi, if_neg (by omega)]
          clear hown hbel
          go_wp2
          go_roundw
          case rel => exact ⟨q, by omega, by go_num, unhide HR, unhide HB⟩
          case measure => simp [intOf]
end Go.Proofs.Ytjfmiomopfjecaa

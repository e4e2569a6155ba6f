/- The program's reading of images: shaped, nodes, Bytes, Values, Pick. -/
import Derived.Test.YtjfmiomopfjecaaNetFits
import Derived.Test.YtjfmiomopfjecaaNetOwn
import Derived.Deep.QuietTactic
import Derived.BigQuiet
namespace Go.Proofs.Ytjfmiomopfjecaa
open Go.RowKit

theorem shaped_yes (s : ByteArray) (w : World) (hs : s.size ≤ maxLen) (h : M.headOk s = true) :
    Calls Try.prog 78 #[.string s] w fun e w' => e = .returned (.bool true) ∧ w = w' := by
  obtain ⟨h0, h1, h2, h3, h4, h5, h6⟩ := M.headOk_eq h
  have k4 : 4 ≤ s.size := by omega
  have p0 : 0 < s.size := by omega
  have p1 : 1 < s.size := by omega
  have p2 : 2 < s.size := by omega
  have p3 : 3 < s.size := by omega
  rw [← M.bz_at s 0 p0] at h0
  rw [← M.bz_at s 1 p1] at h1 h2
  rw [← M.bz_at s 2 p2] at h3 h6
  rw [← M.bz_at s 3 p3] at h4 h5 h6
  have hn : (((s[0]'p0).toNat : Int) != 77) = false := by rw [bne_eq_false_iff_eq]; omega
  have he : ((s.size : Int) == (4 : Int) + (3 : Int) * ((s[2]'p2).toNat : Int) + ((s[3]'p3).toNat : Int)) = true := by rw [beq_iff_eq]; omega
  clear h h6 h0
  unfold maxLen at hs
  go_enter Try.func78, Try.ntmps78
  go_wp2
  go_ret
  exact ⟨rfl, rfl⟩
set_option maxHeartbeats 1600000 in
theorem shaped_no (s : ByteArray) (w : World) (hs : s.size ≤ maxLen) (h : M.headOk s = false) :
    Calls Try.prog 78 #[.string s] w fun e w' => e = .returned (.bool false) ∧ w = w' := by
  have hno := M.headOk_no h
  clear h
  unfold maxLen at hs
  by_cases k4 : 4 ≤ s.size
  · have p0 : 0 < s.size := by omega
    have p1 : 1 < s.size := by omega
    have p2 : 2 < s.size := by omega
    have p3 : 3 < s.size := by omega
    rw [← M.bz_at s 0 p0, ← M.bz_at s 1 p1, ← M.bz_at s 2 p2, ← M.bz_at s 3 p3] at hno
    have q0 : (s[0]'p0).toNat < 256 := UInt8.toNat_lt _
    have q1 : (s[1]'p1).toNat < 256 := UInt8.toNat_lt _
    have q2 : (s[2]'p2).toNat < 256 := UInt8.toNat_lt _
    have q3 : (s[3]'p3).toNat < 256 := UInt8.toNat_lt _
    by_cases c0 : (s[0]'p0).toNat = 77
    · have hn : (((s[0]'p0).toNat : Int) != 77) = false := by rw [bne_eq_false_iff_eq]; omega
      by_cases c1 : (s[1]'p1).toNat < 1
      · clear hno c0
        go_enter Try.func78, Try.ntmps78
        go_wp2
        go_ret
        exact ⟨rfl, rfl⟩
      · by_cases c2 : 4 < (s[1]'p1).toNat
        · clear hno c0
          go_enter Try.func78, Try.ntmps78
          go_wp2
          go_ret
          exact ⟨rfl, rfl⟩
        · by_cases c3 : 24 < (s[2]'p2).toNat
          · clear hno c0
            go_enter Try.func78, Try.ntmps78
            go_wp2
            go_ret
            exact ⟨rfl, rfl⟩
          · by_cases c4 : (s[3]'p3).toNat < 1
            · clear hno c0
              go_enter Try.func78, Try.ntmps78
              go_wp2
              go_ret
              exact ⟨rfl, rfl⟩
            · by_cases c5 : 4 < (s[3]'p3).toNat
              · clear hno c0
                go_enter Try.func78, Try.ntmps78
                go_wp2
                go_ret
                exact ⟨rfl, rfl⟩
              · have he : ((s.size : Int) == (4 : Int) + (3 : Int) * ((s[2]'p2).toNat : Int) + ((s[3]'p3).toNat : Int)) = false := by rw [beq_eq_false_iff_ne]; omega
                clear hno c0
                go_enter Try.func78, Try.ntmps78
                go_wp2
                go_ret
                exact ⟨rfl, rfl⟩
    · have hn : (((s[0]'p0).toNat : Int) != 77) = true := by rw [bne_iff_ne]; omega
      clear hno c0
      go_enter Try.func78, Try.ntmps78
      go_wp2
      go_ret
      exact ⟨rfl, rfl⟩
  · clear hno
    go_enter Try.func78, Try.ntmps78
    go_wp2
    go_ret
    exact ⟨rfl, rfl⟩

/-- bytes of a text, as numbers -/
def bvals (s : ByteArray) (from_ k : Nat) : List Int := (List.range k).map fun j => (M.bz s (from_ + j) : Int)
theorem bvals_length (s : ByteArray) (f k : Nat) : (bvals s f k).length = k := by simp [bvals]
theorem bvals_succ (s : ByteArray) (f k : Nat) : bvals s f (k + 1) = bvals s f k ++ [(M.bz s (f + k) : Int)] := by
  unfold bvals; rw [List.range_succ, List.map_append]; rfl
theorem bvals_at (s : ByteArray) (f k j : Nat) (h : j < k) : (intCells (bvals s f k))[j]? = some (.int .i64 (M.bz s (f + j))) := by
  simp [intCells, bvals, h]

theorem wordBytes_any (s : ByteArray) (f c : Nat) (w : World) (hs : s.size ≤ maxLen) (hf : f ≤ 65535) (hc : c ≤ 255) :
    Calls Try.prog 72 #[.string s, .int .i64 f, .int .i64 c] w fun e w' => ∃ v, e = .returned v ∧ w'.ownsRow w.heap.size 3 1 v c (intCells (bvals s f c)) ∧ Below w.heap.size w w' := by
  go_enter Try.func72, Try.ntmps72
  go_wp2_with fail
  go_loopw [7, 8] (fun v i wr => ∃ k : Nat, k ≤ c ∧ i = .int .i64 k ∧ wr.ownsRow w.heap.size 3 1 v (bvals s f k).length (intCells (bvals s f k)) ∧ Below w.heap.size w wr) (fun _ i _ => c - (intOf i).toNat)
  case atStart => exact ⟨0, by omega, rfl, World.ownsRow_nil _ _ _ _, Below.refl _ _⟩
  case round =>
    obtain ⟨k, hk, rfl, hown, hbel⟩ := hrel
    have HO := hide hown
    have HB := hide hbel
    have hsz := hbel.size
    have HL := hide (bvals_length s f k)
    clear hown hbel
    by_cases hlt : k < c
    · have HS := hide (bvals_succ s f k)
      go_wp2_with fail
      refine (wordByte_any s _ _ hs (by omega)).mono ?_
      rintro e w' ⟨rfl, rfl⟩
      rw [show ((f : Int) + (k : Int)).toNat = f + k from by omega]
      generalize M.bz s (f + k) = x at *
      go_wp2_with (at_builtin; (refine append_int _ rfl (.tmp 14) (.tmp 20) rfl w.heap.size u7 (bvals s f k) x rfl rfl (unhide HO) (by rw [HL.out]; omega) hsz ?_); intro v' w1 hown1 hbel1 hsz1)
      have HR : Hid (w1.ownsRow w.heap.size 3 1 v' (bvals s f (k + 1)).length (intCells (bvals s f (k + 1)))) := by rw [HS.out]; exact hown1
      have HB1 := hide (hbel1 _ (unhide HB))
      clear hown1 hbel1
      go_roundw
      case rel => exact ⟨k + 1, by omega, by go_num, unhide HR, unhide HB1⟩
      case measure => simp [intOf]; omega
    · have : k = c := by omega
      subst this
      go_wp2
      go_ret
      exact ⟨_, rfl, by have h := unhide HO; rw [HL.out] at h; exact h, unhide HB⟩

set_option maxRecDepth 10000 in
theorem wordValues_any (inp : ByteArray) (n : Nat) (w : World) (hi : inp.size = 2 * n) (hn : n ≤ 4) :
    Calls Try.prog 75 #[.string inp] w fun e w' => ∃ v, e = .returned v ∧ w'.ownsRow w.heap.size 3 1 v (M.insOf inp n).length (intCells (M.insOf inp n)) ∧ Below w.heap.size w w' := by
  have hil : inp.size ≤ 2 * n := by omega
  have hih : 2 * n ≤ inp.size := by omega
  clear hi
  go_enter Try.func75, Try.ntmps75
  go_wp2_with fail
  go_loopw [3, 4] (fun v i wr => ∃ k q : Nat, k ≤ n ∧ 2 * k ≤ q ∧ q ≤ 2 * k ∧ i = .int .i64 q ∧ wr.ownsRow w.heap.size 3 1 v (M.insOf inp k).length (intCells (M.insOf inp k)) ∧ Below w.heap.size w wr) (fun _ i _ => 2 * n - (intOf i).toNat)
  case atStart => exact ⟨0, 0, by omega, by omega, by omega, rfl, World.ownsRow_nil _ _ _ _, Below.refl _ _⟩
  case round =>
    obtain ⟨k, q, hk, hq0, hq1, rfl, hown, hbel⟩ := hrel
    have HO := hide hown
    have HB := hide hbel
    have hsz := hbel.size
    have HL := hide (M.insOf_length inp k)
    clear hown hbel
    by_cases hlt : k < n
    · have p0 : q < inp.size := by omega
      have p1 : q + 1 < inp.size := by omega
      have HS : Hid (M.insOf inp (k + 1) = M.insOf inp k ++ [M.wordVal (((inp[q]'p0).toNat : Int) * 256 + (inp[q + 1]'p1).toNat)]) := by
        have e : q = 2 * k := by omega
        subst e
        rw [M.insOf_succ, M.bz_at _ _ p0, M.bz_at _ _ p1]; rfl
      have q0 : (inp[q]'p0).toNat < 256 := UInt8.toNat_lt _
      have q1 : (inp[q + 1]'p1).toNat < 256 := UInt8.toNat_lt _
      have hi0 : (q : Int) < (inp.size : Int) := by omega
      have hi1 : (q : Int) + 1 < (inp.size : Int) := by omega
      have hi2 : (0 : Int) ≤ (q : Int) + 1 := by omega
      have hwr : IntKind.i64.wrap ((q : Int) + 1) = (q : Int) + 1 := IntWalk.i64_in _ ⟨by omega, by omega⟩
      have htn : ((q : Int) + 1).toNat = q + 1 := by omega
      go_wp2_with fail
      have hwb0 : IntKind.i64.wrap ((inp[q]'p0).toNat : Int) = ((inp[q]'p0).toNat : Int) := IntWalk.i64_in _ ⟨by omega, by omega⟩
      have hwb1 : IntKind.i64.wrap ((inp[q + 1]'p1).toNat : Int) = ((inp[q + 1]'p1).toNat : Int) := IntWalk.i64_in _ ⟨by omega, by omega⟩
      go_region_held3 (fun _ => True) (first | trivial | (intros; trivial)) ((first | (refine step_int rfl (.tmp 12) (.tmp 23) rfl w.heap.size u3 (M.insOf inp k) (M.wordVal (((inp[q]'p0).toNat : Int) * 256 + (inp[q + 1]'p1).toNat)) _ (by rfl) (by rfl) (by simp) (by exact ((unhide HO).alloc _).drew) (by rw [HL.out]; omega) (by simp; omega) ?_; intro v' w1 hown1 hbel1 hsz1) | (go_at_call 101; refine (wordValue_any _ _ _ (by omega) (by omega) (by omega) (by omega)).mono ?_; rintro e w' ⟨rfl, rfl⟩)))
      all_goals
        have HR : Hid (w1.ownsRow w.heap.size 3 1 v' (M.insOf inp (k + 1)).length (intCells (M.insOf inp (k + 1)))) := by rw [HS.out]; exact hown1
        have HB1 := hide (hbel1 w (by exact ((unhide HB).alloc hsz _).drew))
        clear hown1 hbel1
        go_wp2
        go_roundw
        case rel => exact ⟨k + 1, q + 2, by omega, by omega, by omega, by go_num, unhide HR, unhide HB1⟩
        case measure => simp [intOf]; omega
    · have : k = n := by omega
      subst this
      go_wp2
      go_ret
      exact ⟨_, rfl, unhide HO, unhide HB⟩

theorem outAt (l : List Int) (s : ByteArray) (f k : Nat) : M.outTo l s f (k + 1) = M.outTo l s f k ++ M.wordText (l.getD (M.bz s (f + k)) 0) := rfl
theorem pick_any (v1 v2 : Value) (l : List Int) (s : ByteArray) (f c : Nat) (w : World) (hl : M.Vals l) (h1 : HoldsRow w v1 l.length (intCells l)) (h2 : HoldsRow w v2 c (intCells (bvals s f c))) (hc : c ≤ 4) :
    Calls Try.prog 77 #[v1, v2] w fun e w' => e = .returned (.string (M.outTo l s f c)) ∧ Below w.heap.size w w' := by
  by_cases hc0 : c = 0
  · subst hc0
    rcases h2 with ⟨rfl, _⟩ | ⟨g, cap, rfl, hg, hcap, hmax, hcell⟩
    · go_enter Try.func77, Try.ntmps77
      go_wp2_with fail
      refine wp_loop_rounds 1 ?_
      rw [rounds_succ]
      go_wp2
      go_ret
      exact ⟨rfl, Below.refl _ _⟩
    · go_enter Try.func77, Try.ntmps77
      go_wp2_with fail
      refine wp_loop_rounds 1 ?_
      rw [rounds_succ]
      go_wp2
      go_ret
      exact ⟨rfl, Below.refl _ _⟩
  · rcases h2 with ⟨_, h0⟩ | ⟨g, cap, rfl, hg, hcap, hmax, hcell⟩
    · exact absurd h0 hc0
    · have HC := hide hcell
      have HL := hide hl
      have HH := hide h1
      clear hcell hl h1 hc0
      unfold maxLen at hmax
      go_enter Try.func77, Try.ntmps77
      go_wp2_with fail
      go_loopw [5, 6] (fun v i wr => ∃ (k : Nat) (o : ByteArray), k ≤ c ∧ i = .int .i64 k ∧ v = .string o ∧ Hid (o = M.outTo l s f k) ∧ o.size ≤ 8 ∧ Below w.heap.size w wr) (fun _ i _ => c - (intOf i).toNat)
      case atStart => exact ⟨0, _, by omega, rfl, rfl, rfl, by decide, Below.refl _ _⟩
      case round =>
        obtain ⟨k, o, hk, rfl, rfl, ho, ho8, hbel⟩ := hrel
        have HB := hide hbel
        have hsz := hbel.size
        by_cases hlt : k < c
        · have b1 := M.bz_lt s (f + k)
          have hcl := (hbel.cell (p := ⟨g, k, none⟩) hg).trans (unhide HC k _ (bvals_at s f c k hlt))
          have HR := hide ((unhide HH).mono hbel)
          have HS := hide (outAt l s f k)
          have HZ := hide (M.outTo_size l s f (k + 1))
          have hx := hide ((unhide HL).getD (M.bz s (f + k)))
          clear hbel
          generalize M.bz s (f + k) = a at *
          go_wp2_with fail
          refine (wordAt_any v1 l a _ (unhide HR) (by omega)).mono ?_
          rintro e w' ⟨rfl, rfl⟩
          generalize l.getD a 0 = x at *
          go_wp2_with fail
          refine (wordText_any x _ (unhide hx)).mono ?_
          rintro e w1 ⟨rfl, hb1⟩
          have ht := M.wordText_size x
          generalize M.wordText x = tx at *
          have ht2 : tx.size ≤ 2 := by omega
          clear ht
          have HB1 := hide ((unhide HB).trans (hb1.mono hsz))
          clear hb1
          have HEQ : Hid (o ++ tx = M.outTo l s f (k + 1)) := by rw [HS.out, ← ho.out]; rfl
          have HSZ : Hid ((o ++ tx).size ≤ 8) := by rw [HEQ.out, HZ.out]; show _ ≤ _; omega
          go_wp2
          go_roundw
          case rel => exact ⟨k + 1, o ++ tx, by omega, by go_num, rfl, HEQ, unhide HSZ, unhide HB1⟩
          case measure => simp [intOf]; omega
        · have : k = c := by omega
          subst this
          clear hbel
          go_wp2
          go_ret
          exact ⟨ret_string ho.out, unhide HB⟩
end Go.Proofs.Ytjfmiomopfjecaa

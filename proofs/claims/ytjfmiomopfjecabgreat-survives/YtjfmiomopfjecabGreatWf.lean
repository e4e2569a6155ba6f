/- Texts laid together: FlashPut, RecLeaf, RecMore, RecText, RecThen, ManMath, ManLeaf. -/
import Derived.Test.YtjfmiomopfjecabGreatWe
import Derived.Test.YtjfmiomopfjecabGreatWc
import Derived.Test.YtjfmiomopfjecabGreatWa
import Derived.Test.YtjfmiomopfjecabGreatWb
import Derived.Test.YtjfmiomopfjecabGreatWd
/- Pages that are read and written. -/
namespace Go.Proofs.YtjfmiomopfjecabGreat
open Go.RowKit Go.Lib

theorem mk_part (n a m : Nat) (F : Nat → Nat) (h : a + m ≤ n) (hF : ∀ j, F j < 256) : (M.mk m fun j => M.bz (M.mk n F) (a + j)) = M.mk m fun j => F (a + j) :=
  M.mk_congr fun j hj => M.bz_mk (fun _ _ => hF _) (by omega)
section
variable {w : World} {b : Nat} {t : TypeId} {key : ByteArray} {F : Nat → Nat} {on : Bool} {wait next age : Nat}
set_option maxRecDepth 100000 in
theorem flashText_in (h : DevAt w b t key F on wait next age) (hF : ∀ j, F j < 256) (p n : Nat) (k c : Int) (hp : p < 23) (hn : 16 * p + n ≤ 368) (hk : k = p) (hc : c = n) :
    Calls Tryz.prog 112 #[.pointer (some ⟨b, 1, none⟩), .int .i64 k, .int .i64 c] w fun e w' => e = .returned (.string (M.mk n fun j => F (16 * p + j))) ∧ w = w' := by
  subst hk hc
  have HC := flash_cells h
  have HE := hide (mk_part 368 (16 * p) n F hn hF)
  have HZ := hide (M.mk_size 368 F)
  generalize M.mk 368 F = s at *
  go_enter Tryz.func112, Tryz.ntmps112
  go_wp2_with fail
  refine (part_yes_at s _ _ (16 * p) n _ (by rw [HZ.out]; omega) (by rw [HZ.out]; omega) (by omega) rfl).mono ?_
  rintro e w' ⟨rfl, rfl⟩
  rw [HE.out]
  generalize hy : (M.mk n fun j => F (16 * p + j)) = y at *
  have HY := hide hy
  clear hy
  go_wp2
  go_ret
  exact ⟨ret_string HY.out.symm, rfl⟩
theorem flashText_out (w : World) (b : Nat) (k c : Int) (hk : k < 0 ∨ 23 ≤ k) :
    Calls Tryz.prog 112 #[.pointer (some ⟨b, 1, none⟩), .int .i64 k, .int .i64 c] w fun e w' => e = .returned (.string ⟨#[]⟩) ∧ w = w' := by
  rcases hk with h | h
  · go_enter Tryz.func112, Tryz.ntmps112
    go_wp2
    go_ret
    exact ⟨rfl, rfl⟩
  · have h0 : ¬ k < 0 := by omega
    go_enter Tryz.func112, Tryz.ntmps112
    go_wp2
    go_ret
    exact ⟨rfl, rfl⟩
/-- a page's text; none if there is no such page -/
def pageT (F : Nat → Nat) (i : Int) : ByteArray := if 0 ≤ i ∧ i < 23 then M.mk 16 fun j => F (16 * i.toNat + j) else ⟨#[]⟩
theorem flashPage_any (h : DevAt w b t key F on wait next age) (hF : ∀ j, F j < 256) (i : Int) :
    Calls Tryz.prog 79 #[.pointer (some ⟨b, 1, none⟩), .int .i64 i] w fun e w' => e = .returned (.string (pageT F i)) ∧ w = w' := by
  have HH := hide h
  by_cases hi : 0 ≤ i ∧ i < 23
  · have HE : Hid (pageT F i = M.mk 16 fun j => F (16 * i.toNat + j)) := if_pos hi
    go_enter Tryz.func79, Tryz.ntmps79
    go_wp2_with fail
    refine (flashText_in (unhide HH) hF i.toNat 16 _ _ (by omega) (by omega) (by omega) rfl).mono ?_
    rintro e w' ⟨rfl, rfl⟩
    rw [← HE.out]
    generalize hy : pageT F i = y at *
    have HY := hide hy
    clear hy HE
    go_wp2
    go_ret
    exact ⟨ret_string HY.out.symm, rfl⟩
  · have HE : Hid (pageT F i = ⟨#[]⟩) := if_neg hi
    go_enter Tryz.func79, Tryz.ntmps79
    go_wp2_with fail
    refine (flashText_out _ b _ _ (by omega)).mono ?_
    rintro e w' ⟨rfl, rfl⟩
    go_wp2
    go_ret
    exact ⟨ret_string HE.out.symm, rfl⟩
theorem put_succ (F : Nat → Nat) (p : Nat) (s : Nat → Nat) (k : Nat) : M.put F p s (k + 1) = fun i => if i = 16 * p + k then s k else M.put F p s k i := by
  funext i
  unfold M.put
  by_cases e : i = 16 * p + k
  · subst e
    rw [if_pos ⟨by omega, by omega⟩, if_pos rfl, show 16 * p + k - 16 * p = k from by omega]
  · rw [if_neg e]
    by_cases h : 16 * p ≤ i ∧ i < 16 * p + k
    · rw [if_pos h, if_pos ⟨by omega, by omega⟩]
    · rw [if_neg h, if_neg (by omega)]
end
set_option maxRecDepth 10000 in
set_option maxHeartbeats 800000 in
theorem flashPut_any {w : World} {b : Nat} {t : TypeId} {key : ByteArray} {F : Nat → Nat} {on : Bool} {wait next age : Nat} (h : DevAt w b t key F on wait next age) (p : Nat) (s : ByteArray) (n : Int) (hp : p < 23) (hs : s.size ≤ maxLen) :
    Calls Tryz.prog 106 #[.pointer (some ⟨b, 1, none⟩), .agg #[.int .i64 p, .string s], .int .i64 n] w fun e w' => e = .returned (.tuple #[]) ∧ DevAt w' b t key (M.put F p (M.bz s) (M.tornN n)) on wait next age ∧ Only (· = b) w w' := by
  have HL := hide hs
  have hlt := h.lt
  have HD : Hid (DevAt (w.alloc (.cells #[.int .i64 p, .string s] 136)) b t key (M.put F p (M.bz s) 0) on wait next age) := by
    rw [M.put_none]
    exact h.mono ((Below.refl _ _).alloc (Nat.le_refl _) _) hlt
  have HO : Hid (Only (· = b) w (w.alloc (.cells #[.int .i64 p, .string s] 136))) := only_alloc _ _ _
  clear h
  go_enter Tryz.func106, Tryz.ntmps106
  go_wp2_with fail
  go_loopw [6, 7] (fun i _ wr => ∃ k : Nat, k ≤ M.tornN n ∧ i = .int .i64 k ∧ DevAt wr b t key (M.put F p (M.bz s) k) on wait next age ∧ Only (· = b) w wr ∧ wr.cell? ⟨w.heap.size, 0, none⟩ = some (.int .i64 p) ∧ wr.cell? ⟨w.heap.size, 1, none⟩ = some (.string s) ∧ w.heap.size < wr.heap.size) (fun i _ _ => 16 - (intOf i).toNat)
  case atStart => exact ⟨0, by omega, rfl, unhide HD, unhide HO, by simp, by simp, by simp⟩
  case round =>
    obtain ⟨k, hk, rfl, hd, ho, hc0, hc1, hsz⟩ := hrel
    have HK := hide hk
    have hk16 : k ≤ 16 := Nat.le_trans hk (M.tornN_le n)
    have HT : Hid (M.tornN n = min 16 n.toNat) := rfl
    clear hk
    by_cases hlt : (k : Int) < n ∧ k < 16
    · obtain ⟨hl1, hl2⟩ := hlt
      have hl3 : (k : Int) < 16 := by omega
      have b1 := M.bz_lt s k
      have hfz := hd.free (1 + (p * 16 + k))
      have hcl : wr.cell? ⟨b, 1 + (p * 16 + k), none⟩ = some (.int .u8 (M.put F p (M.bz s) k (16 * p + k) : Int)) := by
        have := hd.flash (j := 16 * p + k) (by omega)
        rw [show 1 + (p * 16 + k) = 1 + (16 * p + k) from by omega]; exact this
      have HDV := hide hd
      have HON := hide ho
      clear hd ho
      go_wp2_with fail
      refine (wordByte_nat s k _ (unhide HL)).mono ?_
      rintro e w' ⟨rfl, rfl⟩
      have HPS := hide (put_succ F p (M.bz s) k)
      generalize hy : M.bz s k = y at *
      have HY := hide hy
      clear hy
      have i0 : ¬ ((p : Int) * 16 + (k : Int)) < 0 := by omega
      have i1 : ((p : Int) * 16 + (k : Int)) < 368 := by omega
      have i2 : ((p : Int) * 16 + (k : Int)).toNat = p * 16 + k := by omega
      go_wp2_with fail
      go_region
      have HD2 : Hid (DevAt ((wr.setCell ⟨b, 1 + (p * 16 + k), none⟩ (.int .u8 (y : Int))).drew) b t key (M.put F p (M.bz s) (k + 1)) on wait next age) := by
        rw [HPS.out, show 1 + (p * 16 + k) = 1 + (16 * p + k) from by omega]
        exact ((unhide HDV).put (j := 16 * p + k) (by omega) y).drew
      have HO2 : Hid (Only (· = b) w ((wr.setCell ⟨b, 1 + (p * 16 + k), none⟩ (.int .u8 (y : Int))).drew)) := ((unhide HON).trans (only_set _ _ _ _)).drew
      have hne : ¬ b = w.heap.size := by omega
      have hc0' : ((wr.setCell ⟨b, 1 + (p * 16 + k), none⟩ (.int .u8 (y : Int))).drew).cell? ⟨w.heap.size, 0, none⟩ = some (.int .i64 p) := by
        refine Eq.trans ?_ hc0
        exact World.cell?_setCell_other _ _ _ _ (by intro e; have := congrArg Addr.block e; simp at this; omega)
      have hc1' : ((wr.setCell ⟨b, 1 + (p * 16 + k), none⟩ (.int .u8 (y : Int))).drew).cell? ⟨w.heap.size, 1, none⟩ = some (.string s) := by
        refine Eq.trans ?_ hc1
        exact World.cell?_setCell_other _ _ _ _ (by intro e; have := congrArg Addr.block e; simp at this; omega)
      have hsz' : w.heap.size < ((wr.setCell ⟨b, 1 + (p * 16 + k), none⟩ (.int .u8 (y : Int))).drew).heap.size := by simpa using hsz
      generalize (wr.setCell ⟨b, 1 + (p * 16 + k), none⟩ (.int .u8 (y : Int))).drew = w2 at *
      clear hcl hfz hc0 hc1 HY HDV HON
      go_wp2
      go_roundw
      case rel => exact ⟨k + 1, by rw [HT.out]; omega, by go_num, unhide HD2, unhide HO2, hc0', hc1', hsz'⟩
      case measure => simp [intOf]; omega
    · have HF : Hid (M.tornN n = k) := by have h1 := HT.out; have h2 := HK.out; show _ = _; rw [h1] at h2 ⊢; omega
      have HD2 : Hid (DevAt wr b t key (M.put F p (M.bz s) (M.tornN n)) on wait next age) := by rw [HF.out]; exact hd
      have HO2 := hide ho
      clear hd ho
      by_cases hl : (k : Int) < n
      · have hl3 : ¬ (k : Int) < 16 := by omega
        go_wp2
        refine bodyPost_end (v := .tuple #[]) (by simp [results, Tryz.results106, go_sem]) rfl ⟨rfl, unhide HD2, unhide HO2⟩
      · go_wp2
        refine bodyPost_end (v := .tuple #[]) (by simp [results, Tryz.results106, go_sem]) rfl ⟨rfl, unhide HD2, unhide HO2⟩
/- all pages of an event, one after the other -/
def gwsOf (l : List GW) : List M.Wr := l.map gwOf
theorem gwsOf_length (l : List GW) : (gwsOf l).length = l.length := by simp [gwsOf]
theorem puts_take {F : Nat → Nat} {l : List M.Wr} {k : Nat} (h : k < l.length) : M.puts F (l.take (k + 1)) = M.put (M.puts F (l.take k)) (l[k]).1 (l[k]).2 16 := by
  rw [List.take_succ_eq_append_getElem h, M.puts_append]
  rfl
def lastsB (cut : Int) (n : Nat) : Bool := !decide (0 ≤ cut ∧ cut < n)
def writtenF (F : Nat → Nat) (l : List GW) (cut torn : Int) : Nat → Nat := if 0 ≤ cut ∧ cut < l.length then M.cutAt F (gwsOf l) cut.toNat (M.tornN torn) else M.puts F (gwsOf l)
set_option maxRecDepth 10000 in
set_option maxHeartbeats 800000 in
theorem writeAll_any {w : World} {b : Nat} {t : TypeId} {key : ByteArray} {F : Nat → Nat} {on : Bool} {wait next age : Nat} (h : DevAt w b t key F on wait next age) (v : Value) (l : List GW) (cut torn : Int)
    (hrow : HoldsRow w v l.length (gwCells l)) (hne : v.ownBlock ≠ some b) (hlen : l.length ≤ 1000) (hl : ∀ a ∈ l, a.1 < 23 ∧ a.2.size ≤ maxLen) :
    Calls Tryz.prog 76 #[.pointer (some ⟨b, 1, none⟩), v, .int .i64 cut, .int .i64 torn] w fun e w' =>
      e = .returned (.bool (lastsB cut l.length)) ∧ DevAt w' b t key (writtenF F l cut torn) on wait next age ∧ Only (· = b) w w' := by
  have HH := hide h
  have hlt := h.lt
  obtain ⟨a0, cap, rfl, hcap1, hcap2, hx⟩ := hrow.shape
  have HX := hide hx
  have HNE := hide hne
  have HL := hide hl
  have hcap3 : l.length ≤ cap := hcap1
  unfold maxLen at hcap2
  clear h hrow hne hl hx
  go_enter Tryz.func76, Tryz.ntmps76
  go_wp2_with fail
  go_loopw [9] (fun i wr => ∃ k : Nat, k ≤ l.length ∧ i = .int .i64 k ∧ (∀ j : Nat, j < k → ¬ (j : Int) = cut) ∧ DevAt wr b t key (M.puts F ((gwsOf l).take k)) on wait next age ∧ Only (· = b) w wr) (fun i _ => l.length - (intOf i).toNat)
  case atStart => exact ⟨0, by omega, rfl, fun j hj => by omega, unhide HH, Only.refl _ _⟩
  case round =>
    obtain ⟨k, hk, rfl, hnc, hd, ho⟩ := hrel
    have HNC := hide hnc
    clear hnc
    by_cases hkl : k < l.length
    · obtain ⟨g, rfl, hg, hcell⟩ := unhide HX (by omega)
      have hgb : ¬ g = b := fun e => unhide HNE (by rw [e]; rfl)
      obtain ⟨c0, c1⟩ := gwCells_at hkl
      have e0 := (ho.cell (a := ⟨g, k * 2, none⟩) hg hgb).trans (hcell (k * 2) _ (by rw [Nat.mul_comm]; exact c0))
      have e1 := (ho.cell (a := ⟨g, k * 2 + 1, none⟩) hg hgb).trans (hcell (k * 2 + 1) _ (by rw [Nat.mul_comm]; exact c1))
      have HA := hide (unhide HL _ (List.getElem_mem hkl))
      have hgl : k < (gwsOf l).length := by rw [gwsOf_length]; exact hkl
      have HG : Hid ((gwsOf l)[k] = gwOf l[k]) := by show _ = _; simp [gwsOf]
      have HT : Hid (M.puts F ((gwsOf l).take (k + 1)) = M.put (M.puts F ((gwsOf l).take k)) (l[k]).1 (M.bz (l[k]).2) 16) := by show _ = _; rw [puts_take hgl, HG.out]; rfl
      have HC : Hid (M.cutAt F (gwsOf l) k (M.tornN torn) = M.put (M.puts F ((gwsOf l).take k)) (l[k]).1 (M.bz (l[k]).2) (M.tornN torn)) := by show _ = _; rw [M.cutAt_in hgl, HG.out]; rfl
      generalize (l[k]).1 = p at *
      generalize (l[k]).2 = s at *
      have HDV := hide hd
      have HON := hide ho
      have hi0 : (k : Int) < (l.length : Int) := by omega
      clear hd ho hcell c0 c1 hgl HG
      by_cases hc : (k : Int) = cut
      · subst hc
        have HW : Hid (writtenF F l k torn = M.put (M.puts F ((gwsOf l).take k)) p (M.bz s) (M.tornN torn)) := by
          show _ = _
          unfold writtenF
          rw [if_pos ⟨by omega, by omega⟩, Int.toNat_natCast, HC.out]
        have HB : Hid (false = lastsB k l.length) := by
          show _ = _
          unfold lastsB
          rw [decide_eq_true ⟨by omega, by omega⟩]
          rfl
        go_wp2_with fail
        refine (flashPut_any (unhide HDV) p s torn HA.out.1 HA.out.2).mono ?_
        rintro e w1 ⟨rfl, hd1, ho1⟩
        have HD1 : Hid (DevAt w1 b t key (writtenF F l k torn) on wait next age) := by rw [HW.out]; exact hd1
        have HO1 := hide ((unhide HON).trans ho1)
        clear hd1 ho1 e0 e1
        go_wp2
        go_ret
        exact ⟨ret_bool HB.out, unhide HD1, unhide HO1⟩
      · go_wp2_with fail
        refine (flashPut_any (unhide HDV) p s 16 HA.out.1 HA.out.2).mono ?_
        rintro e w1 ⟨rfl, hd1, ho1⟩
        have HD1 : Hid (DevAt w1 b t key (M.puts F ((gwsOf l).take (k + 1))) on wait next age) := by rw [HT.out]; exact hd1
        have HO1 := hide ((unhide HON).trans ho1)
        have HC2 := hide hc
        clear hd1 ho1 e0 e1 hc
        go_wp2
        go_roundw
        case rel =>
          refine ⟨k + 1, by omega, by go_num, fun j hj => ?_, unhide HD1, unhide HO1⟩
          by_cases e : j = k
          · subst e; exact HC2.out
          · exact HNC.out j (by omega)
        case measure => simp [intOf]; omega
    · have hkn : k = l.length := by omega
      have HW : Hid (writtenF F l cut torn = M.puts F ((gwsOf l).take k)) := by
        show _ = _
        unfold writtenF
        rw [if_neg, hkn, ← gwsOf_length, List.take_length]
        rintro ⟨h0, h1⟩
        exact HNC.out cut.toNat (by omega) (by omega)
      have HB : Hid (true = lastsB cut l.length) := by
        show _ = _
        unfold lastsB
        rw [decide_eq_false]
        · rfl
        · rintro ⟨h0, h1⟩
          exact HNC.out cut.toNat (by omega) (by omega)
      have HD1 : Hid (DevAt wr b t key (writtenF F l cut torn) on wait next age) := by rw [HW.out]; exact hd
      have HO1 := hide ho
      have hi0 : ¬ (k : Int) < (l.length : Int) := by omega
      clear hd ho hkn HW
      go_wp2
      go_ret
      exact ⟨ret_bool HB.out, unhide HD1, unhide HO1⟩
end Go.Proofs.YtjfmiomopfjecabGreat

/- Records: how they are read, and what the next one is. -/
namespace Go.Proofs.YtjfmiomopfjecabGreat
open Go.RowKit Go.Lib

/-- a record in memory: its page, its number, the kept slot, the phase, the tries, each slot's length and version, the chunks that are there -/
abbrev recV (pg num kp ph tr s0 v0 s1 v1 th : Int) : Value := .agg #[.int .i64 pg, .int .i64 num, .int .i64 kp, .int .i64 ph, .int .i64 tr, .int .i64 s0, .int .i64 v0, .int .i64 s1, .int .i64 v1, .int .i64 th]
theorem ret_rec {a0 a1 a2 a3 a4 a5 a6 a7 a8 a9 b0 b1 b2 b3 b4 b5 b6 b7 b8 b9 : Int} (h0 : a0 = b0) (h1 : a1 = b1) (h2 : a2 = b2) (h3 : a3 = b3) (h4 : a4 = b4) (h5 : a5 = b5) (h6 : a6 = b6) (h7 : a7 = b7) (h8 : a8 = b8) (h9 : a9 = b9) :
    Ending.returned (recV a0 a1 a2 a3 a4 a5 a6 a7 a8 a9) = .returned (recV b0 b1 b2 b3 b4 b5 b6 b7 b8 b9) := by rw [h0, h1, h2, h3, h4, h5, h6, h7, h8, h9]
theorem recWhole_any (s : ByteArray) (w : World) (hs : s.size ≤ maxLen) :
    Calls Tryz.prog 174 #[.string s] w fun e w' => e = .returned (.bool (decide (M.bz s 0 = M.bz s 15))) ∧ w = w' := by
  have HL := hide hs
  have HE : Hid (((M.bz s 0 : Int) == (M.bz s 15 : Int)) = decide (M.bz s 0 = M.bz s 15)) := by show _ = _; rw [Bool.eq_iff_iff]; simp; omega
  go_enter Tryz.func174, Tryz.ntmps174
  go_wp2_with fail
  refine (wordByte_at s _ 0 _ (unhide HL) rfl).mono ?_
  rintro e w' ⟨rfl, rfl⟩
  go_wp2_with fail
  refine (wordByte_at s _ 15 _ (unhide HL) rfl).mono ?_
  rintro e w' ⟨rfl, rfl⟩
  generalize hx : M.bz s 0 = x at *
  generalize hy : M.bz s 15 = y at *
  have HX := hide hx
  have HY := hide hy
  clear hx hy
  go_wp2
  go_ret
  exact ⟨ret_bool (by rw [HX.out, HY.out]; exact HE.out), rfl⟩
def followsB (a b : ByteArray) : Bool := decide (M.bz b 0 = M.bz b 15 ∧ (M.bz a 0 ≠ M.bz a 15 ∨ M.bz b 0 = (M.bz a 0 + 1) % 256))
theorem recFollows_any (a b : ByteArray) (w : World) (ha : a.size ≤ maxLen) (hb : b.size ≤ maxLen) :
    Calls Tryz.prog 140 #[.string a, .string b] w fun e w' => e = .returned (.bool (followsB a b)) ∧ w = w' := by
  have HA := hide ha
  have HB := hide hb
  have b0 := M.bz_lt a 0
  by_cases h1 : M.bz b 0 = M.bz b 15
  · by_cases h2 : M.bz a 0 = M.bz a 15
    · have HE : Hid (followsB a b = ((((M.bz a 0 + 1) % 256 : Nat) : Int) == (M.bz b 0 : Int))) := by
        show _ = _
        unfold followsB
        rw [Bool.eq_iff_iff]
        simp [h1, h2]
        omega
      go_enter Tryz.func140, Tryz.ntmps140
      go_wp2_with fail
      refine (recWhole_any b _ (unhide HB)).mono ?_
      rintro e w' ⟨rfl, rfl⟩
      rw [decide_eq_true h1]
      go_wp2_with fail
      refine (recWhole_any a _ (unhide HA)).mono ?_
      rintro e w' ⟨rfl, rfl⟩
      rw [decide_eq_true h2]
      go_wp2_with fail
      refine (wordByte_at a _ 0 _ (unhide HA) rfl).mono ?_
      rintro e w' ⟨rfl, rfl⟩
      clear h2
      go_wp2_with fail
      refine (wordByte_at b _ 0 _ (unhide HB) rfl).mono ?_
      rintro e w' ⟨rfl, rfl⟩
      clear h1
      generalize hx : M.bz a 0 = x at *
      generalize hy : M.bz b 0 = y at *
      clear hx hy
      have HX := hide HE
      clear HE
      go_wp2
      go_ret
      exact ⟨ret_bool (by rw [(unhide HX).out]; congr 1), rfl⟩
    · have HE : Hid (followsB a b = true) := by
        show _ = _
        unfold followsB
        exact decide_eq_true ⟨h1, .inl h2⟩
      go_enter Tryz.func140, Tryz.ntmps140
      go_wp2_with fail
      refine (recWhole_any b _ (unhide HB)).mono ?_
      rintro e w' ⟨rfl, rfl⟩
      rw [decide_eq_true h1]
      go_wp2_with fail
      refine (recWhole_any a _ (unhide HA)).mono ?_
      rintro e w' ⟨rfl, rfl⟩
      rw [decide_eq_false h2]
      go_wp2
      go_ret
      exact ⟨ret_bool HE.out.symm, rfl⟩
  · have HE : Hid (followsB a b = false) := by
      show _ = _
      unfold followsB
      exact decide_eq_false (fun h => h1 h.1)
    go_enter Tryz.func140, Tryz.ntmps140
    go_wp2_with fail
    refine (recWhole_any b _ (unhide HB)).mono ?_
    rintro e w' ⟨rfl, rfl⟩
    rw [decide_eq_false h1]
    go_wp2
    go_ret
    exact ⟨ret_bool HE.out.symm, rfl⟩
/-- the record that a page's text tells -/
abbrev recT (pg : Nat) (s : ByteArray) : Value := recV pg (M.bz s 0) (M.bz s 1) (M.bz s 2) (M.bz s 3) (M.bz s 4) (M.bz s 6 * 256 + M.bz s 7 : Nat) (M.bz s 5) (M.bz s 8 * 256 + M.bz s 9 : Nat) (M.bz s 10)
set_option maxRecDepth 10000 in
theorem recRead_any (pg : Nat) (s : ByteArray) (w : World) (hs : s.size ≤ maxLen) :
    Calls Tryz.prog 141 #[.int .i64 pg, .string s] w fun e w' => e = .returned (recT pg s) ∧ Below w.heap.size w w' := by
  have HL := hide hs
  go_enter Tryz.func141, Tryz.ntmps141
  go_wp2_with fail
  refine (wordByte_at s _ 0 _ (unhide HL) rfl).mono ?_
  rintro e w' ⟨rfl, rfl⟩
  go_wp2_with fail
  refine (wordByte_at s _ 1 _ (unhide HL) rfl).mono ?_
  rintro e w' ⟨rfl, rfl⟩
  go_wp2_with fail
  refine (wordByte_at s _ 2 _ (unhide HL) rfl).mono ?_
  rintro e w' ⟨rfl, rfl⟩
  go_wp2_with fail
  refine (wordByte_at s _ 3 _ (unhide HL) rfl).mono ?_
  rintro e w' ⟨rfl, rfl⟩
  go_wp2_with fail
  refine (wordByte_at s _ 4 _ (unhide HL) rfl).mono ?_
  rintro e w' ⟨rfl, rfl⟩
  go_wp2_with fail
  refine (wordNumber_any s _ 6 _ (unhide HL) rfl (by omega)).mono ?_
  rintro e w' ⟨rfl, rfl⟩
  go_wp2_with fail
  refine (wordByte_at s _ 5 _ (unhide HL) rfl).mono ?_
  rintro e w' ⟨rfl, rfl⟩
  go_wp2_with fail
  refine (wordNumber_any s _ 8 _ (unhide HL) rfl (by omega)).mono ?_
  rintro e w' ⟨rfl, rfl⟩
  go_wp2_with fail
  refine (wordByte_at s _ 10 _ (unhide HL) rfl).mono ?_
  rintro e w' ⟨rfl, rfl⟩
  go_wp2
  refine bodyPost_ret (v := recT pg s) (by simp [results, Tryz.results141, go_sem]) rfl ⟨rfl, ?_⟩
  exact (Below.refl _ _).alloc (Nat.le_refl _) _
set_option maxRecDepth 10000 in
theorem recNext_any (pg num kp ph tr s0 v0 s1 v1 th : Nat) (w : World) (hp : pg ≤ 1) (hn : num < 256) :
    Calls Tryz.prog 189 #[recV pg num kp ph tr s0 v0 s1 v1 th] w fun e w' => e = .returned (recV (1 - pg : Nat) ((num + 1) % 256 : Nat) kp ph tr s0 v0 s1 v1 th) ∧ Below w.heap.size w w' := by
  go_enter Tryz.func189, Tryz.ntmps189
  go_wp2
  refine bodyPost_ret (v := recV (1 - (pg : Int)) (((num : Int) + 1) % 256) kp ph tr s0 v0 s1 v1 th) (by simp [results, Tryz.results189, go_sem]) rfl ⟨ret_rec (by omega) (by omega) rfl rfl rfl rfl rfl rfl rfl rfl, ?_⟩
  exact ((Below.refl _ _).alloc (Nat.le_refl _) _).alloc (by simp) _
theorem two_alloc {w w' : World} {o1 o2 : Obj} (h : Below (w.heap.size + 2) ((w.alloc o1).alloc o2) w') : Below w.heap.size w w' :=
  (((Below.refl _ _).alloc (Nat.le_refl _) _).alloc (by simp) _).trans (h.mono (by omega))
theorem last_block (w : World) (o : Obj) {n : Nat} (h : n = w.heap.size) : (w.alloc o).heap[n]? = some o := by subst h; exact heap_alloc_last w o
theorem first_block (w : World) (o o2 : Obj) : ((w.alloc o).alloc o2).heap[w.heap.size]? = some o := (Below.heap_alloc _ _ _ (by simp)).trans (heap_alloc_last w o)
theorem block_facts {w : World} {g : Nat} {c : Array Value} {t : TypeId} (h : w.heap[g]? = some (.cells c t (0, 0))) : (∀ o, w.cell? ⟨g, o, none⟩ = c[o]?) ∧ ∀ o, w.frozen? ⟨g, o, none⟩ = false := by
  refine ⟨fun o => cell_in h o, fun o => ?_⟩
  unfold World.frozen?
  rw [h]
  simp
set_option maxRecDepth 10000 in
theorem recPhase_any (pg num kp ph tr s0 v0 s1 v1 th p q : Nat) (w : World) (hp : pg ≤ 1) (hn : num < 256) :
    Calls Tryz.prog 183 #[recV pg num kp ph tr s0 v0 s1 v1 th, .int .i64 p, .int .i64 q] w fun e w' => e = .returned (recV (1 - pg : Nat) ((num + 1) % 256 : Nat) kp p q s0 v0 s1 v1 0) ∧ Below w.heap.size w w' := by
  go_enter Tryz.func183, Tryz.ntmps183
  go_wp2_with fail
  refine (recNext_any pg num kp ph tr s0 v0 s1 v1 th _ hp hn).mono ?_
  rintro e w1 ⟨rfl, hb⟩
  have HB : Hid (Below w.heap.size w w1) := two_alloc (hb.mono (by simp))
  obtain ⟨hz, hfz⟩ := block_facts ((hb.block (w.heap.size + 1) (by simp)).trans (last_block _ _ (by simp)))
  have hsz := hb.size
  simp only [World.size_alloc] at hsz
  have hs1 : w.heap.size + 1 < w1.heap.size := by omega
  have hn1 : ¬ w.heap.size + 1 = w1.heap.size := by omega
  clear hb hsz
  generalize hN : (num + 1) % 256 = N at *
  generalize hP : 1 - pg = P at *
  have HN := hide hN
  have HP := hide hP
  clear hN hP
  go_wp2
  refine bodyPost_ret (v := recV P N kp p q s0 v0 s1 v1 0) (by simp [results, Tryz.results183, go_sem, hz, hs1]) rfl ⟨ret_rec (by rw [HP.out]) (by rw [HN.out]) rfl rfl rfl rfl rfl rfl rfl rfl, ?_⟩
  · refine Below.alloc ?_ (by simp; omega) _
    iterate 10 refine Below.setCell ?_ (by simp) _
    exact unhide HB
set_option maxRecDepth 10000 in
theorem recSteady_any (pg num kp ph tr s0 v0 s1 v1 th : Nat) (w : World) (hp : pg ≤ 1) (hn : num < 256) :
    Calls Tryz.prog 164 #[recV pg num kp ph tr s0 v0 s1 v1 th] w fun e w' => e = .returned (recV (1 - pg : Nat) ((num + 1) % 256 : Nat) kp 0 0 s0 v0 s1 v1 0) ∧ Below w.heap.size w w' := by
  go_enter Tryz.func164, Tryz.ntmps164
  go_wp2_with fail
  refine (recPhase_any pg num kp ph tr s0 v0 s1 v1 th 0 0 _ hp hn).mono ?_
  rintro e w1 ⟨rfl, hb⟩
  have HB : Hid (Below w.heap.size w w1) := two_alloc (hb.mono (by simp))
  obtain ⟨hz, hfz⟩ := block_facts ((hb.block (w.heap.size + 1) (by simp)).trans (last_block _ _ (by simp)))
  have hsz := hb.size
  simp only [World.size_alloc] at hsz
  have hs1 : w.heap.size + 1 < w1.heap.size := by omega
  have hn1 : ¬ w.heap.size + 1 = w1.heap.size := by omega
  clear hb hsz
  generalize hN : (num + 1) % 256 = N at *
  generalize hP : 1 - pg = P at *
  have HN := hide hN
  have HP := hide hP
  clear hN hP
  go_wp2
  refine bodyPost_ret (v := recV P N kp 0 0 s0 v0 s1 v1 0) (by simp [results, Tryz.results164, go_sem, hz]) rfl ⟨ret_rec (by rw [HP.out]) (by rw [HN.out]) rfl rfl rfl rfl rfl rfl rfl rfl, ?_⟩
  · iterate 10 refine Below.setCell ?_ (by simp) _
    exact unhide HB
set_option maxRecDepth 10000 in
theorem recFetching_any (pg num kp ph tr s0 v0 s1 v1 th : Nat) (w : World) (hp : pg ≤ 1) (hn : num < 256) :
    Calls Tryz.prog 165 #[recV pg num kp ph tr s0 v0 s1 v1 th] w fun e w' => e = .returned (recV (1 - pg : Nat) ((num + 1) % 256 : Nat) kp 1 0 s0 v0 s1 v1 0) ∧ Below w.heap.size w w' := by
  go_enter Tryz.func165, Tryz.ntmps165
  go_wp2_with fail
  refine (recPhase_any pg num kp ph tr s0 v0 s1 v1 th 1 0 _ hp hn).mono ?_
  rintro e w1 ⟨rfl, hb⟩
  have HB : Hid (Below w.heap.size w w1) := two_alloc (hb.mono (by simp))
  obtain ⟨hz, hfz⟩ := block_facts ((hb.block (w.heap.size + 1) (by simp)).trans (last_block _ _ (by simp)))
  have hsz := hb.size
  simp only [World.size_alloc] at hsz
  have hs1 : w.heap.size + 1 < w1.heap.size := by omega
  have hn1 : ¬ w.heap.size + 1 = w1.heap.size := by omega
  clear hb hsz
  generalize hN : (num + 1) % 256 = N at *
  generalize hP : 1 - pg = P at *
  have HN := hide hN
  have HP := hide hP
  clear hN hP
  go_wp2
  refine bodyPost_ret (v := recV P N kp 1 0 s0 v0 s1 v1 0) (by simp [results, Tryz.results165, go_sem, hz]) rfl ⟨ret_rec (by rw [HP.out]) (by rw [HN.out]) rfl rfl rfl rfl rfl rfl rfl rfl, ?_⟩
  · iterate 10 refine Below.setCell ?_ (by simp) _
    exact unhide HB
end Go.Proofs.YtjfmiomopfjecabGreat

/- Records: what they tell, and those that follow them. -/
namespace Go.Proofs.YtjfmiomopfjecabGreat
open Go.RowKit Go.Lib

theorem M.or_i64 (a b : Nat) (ha : a < 9223372036854775808) (hb : b < 9223372036854775808) : bits .or .i64 (a : Int) (b : Int) = ((a ||| b : Nat) : Int) := by
  have hx : a ||| b < 2 ^ 63 := Nat.or_lt_two_pow (by omega) (by omega)
  show IntKind.i64.wrap ((BitVec.ofInt 64 (a : Int) ||| BitVec.ofInt 64 (b : Int)).toNat : Int) = _
  rw [BitVec.toNat_or, M.ofInt_i64 a ha, M.ofInt_i64 b hb, IntKind.wrap_i64]
  omega
set_option maxRecDepth 1000000 in
set_option maxHeartbeats 4000000 in
theorem bits_all : ∀ i, i < 6 → ∀ x, x < 256 → ((x &&& 2 ^ i ≠ 0) ↔ x / 2 ^ i % 2 = 1) ∧ (x / 2 ^ i % 2 ≠ 1 → x ||| 2 ^ i = x + 2 ^ i) := by decide
theorem or_bit {x i : Nat} (hx : x < 256) (hi : i < 6) (h : x / 2 ^ i % 2 ≠ 1) : x ||| 2 ^ i = x + 2 ^ i := (bits_all i hi x hx).2 h
theorem and_bit {x i : Nat} (hx : x < 256) (hi : i < 6) : (x &&& 2 ^ i ≠ 0) ↔ x / 2 ^ i % 2 = 1 := (bits_all i hi x hx).1
theorem recBit_any (i : Nat) (w : World) (hi : i < 6) :
    Calls Tryz.prog 143 #[.int .i64 i] w fun e w' => e = .returned (.int .i64 (2 ^ i : Nat)) ∧ w = w' := by
  have hc : i = 0 ∨ i = 1 ∨ i = 2 ∨ i = 3 ∨ i = 4 ∨ i = 5 := by omega
  rcases hc with rfl | rfl | rfl | rfl | rfl | rfl
  all_goals
    go_enter Tryz.func143, Tryz.ntmps143
    go_wp2
    go_ret
    exact ⟨rfl, rfl⟩
set_option maxRecDepth 10000 in
theorem recHas_any (pg num kp ph tr s0 v0 s1 v1 th i : Nat) (w : World) (hth : th < 256) (hi : i < 6) :
    Calls Tryz.prog 116 #[recV pg num kp ph tr s0 v0 s1 v1 th, .int .i64 i] w fun e w' => e = .returned (.bool (decide (th / 2 ^ i % 2 = 1))) ∧ Below w.heap.size w w' := by
  have hB : 2 ^ i < 256 := Nat.lt_of_lt_of_le (Nat.pow_lt_pow_right (by omega) hi) (by decide)
  have HE : Hid ((((th &&& 2 ^ i : Nat) : Int) != 0) = decide (th / 2 ^ i % 2 = 1)) := by
    show _ = _
    rw [Bool.eq_iff_iff, decide_eq_true_iff, ← and_bit hth hi]
    simp
  have hand := M.and_i64 th (2 ^ i) (by omega) (by omega)
  have hbit := hide (fun W => recBit_any i W hi)
  generalize 2 ^ i = B at *
  go_enter Tryz.func116, Tryz.ntmps116
  go_wp2_with fail
  go_region_held3 (fun W => W.cell? ⟨w.heap.size, 9, none⟩ = some (.int .i64 th)) (go_keep) ((go_at_call 143; refine (unhide hbit _).mono ?_; rintro e w' ⟨rfl, rfl⟩))
  all_goals
    go_wp2
    go_ret
    exact ⟨ret_bool HE.out, ((Below.refl _ _).alloc (Nat.le_refl _) _).drew⟩
theorem one_alloc {w w' : World} {o1 : Obj} (h : Below (w.heap.size + 1) (w.alloc o1) w') : Below w.heap.size w w' :=
  ((Below.refl _ _).alloc (Nat.le_refl _) _).trans (h.mono (by omega))
theorem recOther_any (pg num kp ph tr s0 v0 s1 v1 th : Nat) (w : World) (hk : kp ≤ 1) :
    Calls Tryz.prog 114 #[recV pg num kp ph tr s0 v0 s1 v1 th] w fun e w' => e = .returned (.int .i64 (1 - kp : Nat)) ∧ Below w.heap.size w w' := by
  go_enter Tryz.func114, Tryz.ntmps114
  go_wp2
  go_ret
  exact ⟨ret_int (by omega), (Below.refl _ _).alloc (Nat.le_refl _) _⟩
theorem recServed_any (pg num kp ph tr s0 v0 s1 v1 th : Nat) (w : World) (hk : kp ≤ 1) :
    Calls Tryz.prog 82 #[recV pg num kp ph tr s0 v0 s1 v1 th] w fun e w' => e = .returned (.int .i64 (if ph = 2 then 1 - kp else kp : Nat)) ∧ Below w.heap.size w w' := by
  by_cases h : ph = 2
  · have h2 : (ph : Int) = 2 := by omega
    go_enter Tryz.func82, Tryz.ntmps82
    go_wp2_with fail
    refine (recOther_any pg num kp 2 tr s0 v0 s1 v1 th _ hk).mono ?_
    rintro e w1 ⟨rfl, hb⟩
    have HB : Hid (Below w.heap.size w w1) := one_alloc (hb.mono (by simp))
    clear hb
    generalize hx : 1 - kp = x at *
    have HX := hide hx
    clear hx
    go_wp2
    go_ret
    exact ⟨ret_int (by rw [HX.out]), unhide HB⟩
  · have h2 : ¬ (ph : Int) = 2 := by omega
    go_enter Tryz.func82, Tryz.ntmps82
    go_wp2
    go_ret
    exact ⟨rfl, (Below.refl _ _).alloc (Nat.le_refl _) _⟩
set_option maxRecDepth 10000 in
theorem recSlot_any (pg num kp ph tr s0 v0 s1 v1 th i : Nat) (w : World) :
    Calls Tryz.prog 81 #[recV pg num kp ph tr s0 v0 s1 v1 th, .int .i64 i] w fun e w' => e = .returned (.agg #[.int .i64 (if i = 0 then s0 else s1 : Nat), .int .i64 (if i = 0 then v0 else v1 : Nat)]) ∧ Below w.heap.size w w' := by
  by_cases h : i = 0
  · subst h
    rw [if_pos rfl, if_pos rfl]
    go_enter Tryz.func81, Tryz.ntmps81
    go_wp2
    refine bodyPost_ret (v := .agg #[.int .i64 s0, .int .i64 v0]) (by simp [results, Tryz.results81, go_sem]) rfl ⟨rfl, ?_⟩
    exact ((Below.refl _ _).alloc (Nat.le_refl _) _).alloc (by simp) _
  · rw [if_neg h, if_neg h]
    have h2 : ¬ (i : Int) = 0 := by omega
    go_enter Tryz.func81, Tryz.ntmps81
    go_wp2
    refine bodyPost_ret (v := .agg #[.int .i64 s1, .int .i64 v1]) (by simp [results, Tryz.results81, go_sem]) rfl ⟨rfl, ?_⟩
    exact ((Below.refl _ _).alloc (Nat.le_refl _) _).alloc (by simp) _
set_option maxRecDepth 10000 in
theorem recFirst_any (s v : Nat) (w : World) :
    Calls Tryz.prog 74 #[.agg #[.int .i64 s, .int .i64 v]] w fun e w' => e = .returned (recV 0 1 0 0 0 s v 0 0 0) ∧ Below w.heap.size w w' := by
  go_enter Tryz.func74, Tryz.ntmps74
  go_wp2
  refine bodyPost_ret (v := recV 0 1 0 0 0 s v 0 0 0) (by simp [results, Tryz.results74, go_sem]) rfl ⟨rfl, ?_⟩
  exact ((Below.refl _ _).alloc (Nat.le_refl _) _).alloc (by simp) _
theorem recPhase_at (pg num kp ph tr s0 v0 s1 v1 th p q : Nat) (k : Int) (w : World) (hp : pg ≤ 1) (hn : num < 256) (hk : k = q) :
    Calls Tryz.prog 183 #[recV pg num kp ph tr s0 v0 s1 v1 th, .int .i64 p, .int .i64 k] w fun e w' => e = .returned (recV (1 - pg : Nat) ((num + 1) % 256 : Nat) kp p q s0 v0 s1 v1 0) ∧ Below w.heap.size w w' := by
  subst hk
  exact recPhase_any pg num kp ph tr s0 v0 s1 v1 th p q w hp hn
def standT (a b : ByteArray) : Value := if followsB a b = true then recT 1 b else recT 0 a
set_option maxRecDepth 10000 in
theorem recStanding_any (a b : ByteArray) (w : World) (ha : a.size ≤ maxLen) (hb : b.size ≤ maxLen) :
    Calls Tryz.prog 113 #[.string a, .string b] w fun e w' => e = .returned (standT a b) ∧ Below w.heap.size w w' := by
  have HA := hide ha
  have HBs := hide hb
  have HF := hide (fun W => recFollows_any a b W ha hb)
  cases hf : followsB a b
  · have HE : Hid (recT 0 a = standT a b) := by show _ = _; unfold standT; rw [hf]; rfl
    go_enter Tryz.func113, Tryz.ntmps113
    go_wp2_with fail
    refine (unhide HF _).mono ?_
    rintro e w' ⟨rfl, rfl⟩
    rw [hf]
    go_wp2_with fail
    refine (recRead_any 0 a _ (unhide HA)).mono ?_
    rintro e w1 ⟨rfl, hb⟩
    have HB : Hid (Below w.heap.size w w1) := one_alloc (hb.mono (by simp))
    obtain ⟨hz, hfz⟩ := block_facts ((hb.block w.heap.size (by simp)).trans (last_block _ _ rfl))
    clear hb
    go_wp2
    refine bodyPost_ret (v := recT 0 a) (by simp [results, Tryz.results113, go_sem, hz]) rfl ⟨by rw [HE.out], ?_⟩
    · iterate 10 refine Below.setCell ?_ (by simp) _
      exact unhide HB
  · have HE : Hid (recT 1 b = standT a b) := by show _ = _; unfold standT; rw [hf]; rfl
    go_enter Tryz.func113, Tryz.ntmps113
    go_wp2_with fail
    refine (unhide HF _).mono ?_
    rintro e w' ⟨rfl, rfl⟩
    rw [hf]
    go_wp2_with fail
    refine (recRead_any 1 b _ (unhide HBs)).mono ?_
    rintro e w1 ⟨rfl, hb⟩
    have HB : Hid (Below w.heap.size w w1) := one_alloc (hb.mono (by simp))
    obtain ⟨hz, hfz⟩ := block_facts ((hb.block w.heap.size (by simp)).trans (last_block _ _ rfl))
    clear hb
    go_wp2
    refine bodyPost_ret (v := recT 1 b) (by simp [results, Tryz.results113, go_sem, hz]) rfl ⟨by rw [HE.out], ?_⟩
    · iterate 10 refine Below.setCell ?_ (by simp) _
      exact unhide HB
set_option maxRecDepth 10000 in
theorem recTried_any (pg num kp ph tr s0 v0 s1 v1 th p q : Nat) (w : World) (hp : pg ≤ 1) (hn : num < 256) (ht : tr < 256) (hpq : if tr = 0 then p = 0 ∧ q = 0 else p = 2 ∧ q = tr - 1) :
    Calls Tryz.prog 157 #[recV pg num kp ph tr s0 v0 s1 v1 th] w fun e w' => e = .returned (recV (1 - pg : Nat) ((num + 1) % 256 : Nat) kp p q s0 v0 s1 v1 0) ∧ Below w.heap.size w w' := by
  by_cases h0 : tr = 0
  · rw [if_pos h0] at hpq
    obtain ⟨rfl, rfl⟩ := hpq
    subst h0
    go_enter Tryz.func157, Tryz.ntmps157
    go_wp2_with fail
    refine (recSteady_any pg num kp ph 0 s0 v0 s1 v1 th _ hp hn).mono ?_
    rintro e w1 ⟨rfl, hb⟩
    have HB : Hid (Below w.heap.size w w1) := two_alloc (hb.mono (by simp))
    obtain ⟨hz, hfz⟩ := block_facts ((hb.block (w.heap.size + 1) (by simp)).trans (last_block _ _ (by simp)))
    obtain ⟨hy, hfy⟩ := block_facts ((hb.block w.heap.size (by simp; omega)).trans (first_block _ _ _))
    have hsz := hb.size
    simp only [World.size_alloc] at hsz
    have hs1 : w.heap.size + 1 < w1.heap.size := by omega
    have hs0 : w.heap.size < w1.heap.size := by omega
    have hn1 : ¬ w.heap.size + 1 = w1.heap.size := by omega
    have hn0 : ¬ w.heap.size = w1.heap.size := by omega
    clear hb hsz
    generalize hN : (num + 1) % 256 = N at *
    generalize hP : 1 - pg = P at *
    have HN := hide hN
    have HP := hide hP
    clear hN hP
    go_wp2
    refine bodyPost_ret (v := recV P N kp 0 0 s0 v0 s1 v1 0) (by simp [results, Tryz.results157, go_sem, hz]) rfl ⟨ret_rec (by rw [HP.out]) (by rw [HN.out]) rfl rfl rfl rfl rfl rfl rfl rfl, ?_⟩
    · iterate 10 refine Below.setCell ?_ (by simp) _
      exact unhide HB
  · rw [if_neg h0] at hpq
    obtain ⟨rfl, rfl⟩ := hpq
    have h2 : ¬ (tr : Int) = 0 := by omega
    go_enter Tryz.func157, Tryz.ntmps157
    go_wp2_with fail
    refine (recPhase_at pg num kp ph tr s0 v0 s1 v1 th 2 (tr - 1) _ _ hp hn (by omega)).mono ?_
    rintro e w1 ⟨rfl, hb⟩
    have HB : Hid (Below w.heap.size w w1) := two_alloc (hb.mono (by simp))
    obtain ⟨hz, hfz⟩ := block_facts ((hb.block (w.heap.size + 1) (by simp)).trans (last_block _ _ (by simp)))
    obtain ⟨hy, hfy⟩ := block_facts ((hb.block w.heap.size (by simp; omega)).trans (first_block _ _ _))
    have hsz := hb.size
    simp only [World.size_alloc] at hsz
    have hs1 : w.heap.size + 1 < w1.heap.size := by omega
    have hs0 : w.heap.size < w1.heap.size := by omega
    have hn1 : ¬ w.heap.size + 1 = w1.heap.size := by omega
    have hn0 : ¬ w.heap.size = w1.heap.size := by omega
    clear hb hsz
    generalize hN : (num + 1) % 256 = N at *
    generalize hP : 1 - pg = P at *
    have HN := hide hN
    have HP := hide hP
    clear hN hP
    generalize hT : tr - 1 = T at *
    have HT := hide hT
    clear hT
    go_wp2
    refine bodyPost_ret (v := recV P N kp 2 T s0 v0 s1 v1 0) (by simp [results, Tryz.results157, go_sem, hz]) rfl ⟨ret_rec (by rw [HP.out]) (by rw [HN.out]) rfl rfl (by rw [HT.out]) rfl rfl rfl rfl rfl, ?_⟩
    · iterate 10 refine Below.setCell ?_ (by simp) _
      exact unhide HB
end Go.Proofs.YtjfmiomopfjecabGreat

/- The page of a record; the records of chunks, of trials and of what is confirmed. -/
namespace Go.Proofs.YtjfmiomopfjecabGreat
open Go.RowKit Go.Lib

theorem numText_run (w : World) (n : Nat) :
    (convert 79 9 (.slice (some ⟨w.heap.size, 0, none⟩) 2 2)).run Tryz.prog (w.alloc (.cells #[.int .u8 (n / 256 : Nat), .int .u8 (n % 256 : Nat)] 5)) =
      .ok (.string (M.bytesOf [n / 256, n % 256])) (w.alloc (.cells #[.int .u8 (n / 256 : Nat), .int .u8 (n % 256 : Nat)] 5)) := text_run w [((n / 256 : Nat) : Int), ((n % 256 : Nat) : Int)] 2 rfl
theorem numSplit_any (n : Nat) (w : World) (h : n ≤ 65535) :
    Calls Tryz.prog 156 #[.int .i64 n] w fun e w' => e = .returned (.tuple #[.int .i64 (n / 256 : Nat), .int .i64 (n % 256 : Nat)]) ∧ w = w' := by
  go_enter Tryz.func156, Tryz.ntmps156
  go_wp2
  go_ret2
  exact ⟨ret_pair (by omega) (by omega), rfl⟩
theorem numText_any (n : Nat) (w : World) (h : n ≤ 65535) :
    Calls Tryz.prog 131 #[.int .i64 n] w fun e w' => e = .returned (.string (M.bytesOf [n / 256, n % 256])) ∧ Below w.heap.size w w' := by
  have hr := numText_run w n
  have h1 : n / 256 < 256 := by omega
  have h2 : n % 256 < 256 := by omega
  go_enter Tryz.func131, Tryz.ntmps131
  go_wp2_with fail
  refine (numSplit_any n _ h).mono ?_
  rintro e w' ⟨rfl, rfl⟩
  generalize hx : n / 256 = x at *
  generalize hy : n % 256 = y at *
  have HX := hide hx
  have HY := hide hy
  clear hx hy
  go_wp2
  go_ret
  exact ⟨ret_string (by rw [HX.out, HY.out]), (Below.refl _ _).alloc (Nat.le_refl _) _⟩
def numT (n : Nat) : ByteArray := M.bytesOf [n / 256, n % 256]
theorem numT_size (n : Nat) : (numT n).size = 2 := rfl
theorem numText_cum {w0 : World} {B : Nat} (v : Int) (W : World) (h0 : 0 ≤ v) (h1 : v ≤ 65535) (hB : B ≤ W.heap.size) (hW : Below B w0 W) :
    Calls Tryz.prog 131 #[.int .i64 v] W fun e w' => e = .returned (.string (numT v.toNat)) ∧ Below B w0 w' ∧ B ≤ w'.heap.size := by
  obtain ⟨n, rfl⟩ := Int.eq_ofNat_of_zero_le h0
  rw [Int.toNat_natCast]
  exact (numText_any n W (by omega)).mono fun _ _ ⟨a, b⟩ => ⟨a, hW.trans (b.mono hB), Nat.le_trans hB b.size⟩
/-- the page of a record -/
def recP (num kp ph tr s0 v0 s1 v1 th : Nat) : ByteArray := M.mk 16 (M.recB num kp ph tr s0 s1 (v0 / 256) (v0 % 256) (v1 / 256) (v1 % 256) th)
theorem recP_is (num kp ph tr s0 v0 s1 v1 th : Nat) : M.bytesOf [num, kp, ph, tr, s0, s1] ++ (M.bytesOf [v0 / 256, v0 % 256] ++ M.bytesOf [v1 / 256, v1 % 256]) ++ M.bytesOf [th, 0, 0, 0, 0, num] = recP num kp ph tr s0 v0 s1 v1 th := by
  rw [M.bytesOf_append, M.bytesOf_append, M.bytesOf_append]
  rfl
theorem six_run (w : World) (a b c d e f : Nat) :
    (convert 79 9 (.slice (some ⟨w.heap.size, 0, none⟩) 6 6)).run Tryz.prog (w.alloc (.cells #[.int .u8 (a : Int), .int .u8 (b : Int), .int .u8 (c : Int), .int .u8 (d : Int), .int .u8 (e : Int), .int .u8 (f : Int)] 5)) =
      .ok (.string (M.bytesOf [a, b, c, d, e, f])) (w.alloc (.cells #[.int .u8 (a : Int), .int .u8 (b : Int), .int .u8 (c : Int), .int .u8 (d : Int), .int .u8 (e : Int), .int .u8 (f : Int)] 5)) := text_run w [(a : Int), (b : Int), (c : Int), (d : Int), (e : Int), (f : Int)] 6 rfl
theorem tail_run (w : World) (a f : Nat) :
    (convert 79 9 (.slice (some ⟨w.heap.size, 0, none⟩) 6 6)).run Tryz.prog (w.alloc (.cells #[.int .u8 (a : Int), .int .u8 0, .int .u8 0, .int .u8 0, .int .u8 0, .int .u8 (f : Int)] 5)) =
      .ok (.string (M.bytesOf [a, 0, 0, 0, 0, f])) (w.alloc (.cells #[.int .u8 (a : Int), .int .u8 0, .int .u8 0, .int .u8 0, .int .u8 0, .int .u8 (f : Int)] 5)) := text_run w [(a : Int), 0, 0, 0, 0, (f : Int)] 6 rfl
theorem box_cell {w W : World} {c : Array Value} {t : TypeId} (h : Below (w.heap.size + 1) (w.alloc (.cells c t)) W) (o : Nat) : W.cell? ⟨w.heap.size, o, none⟩ = c[o]? := by
  have e := h.cell (p := ⟨w.heap.size, o, none⟩) (by show w.heap.size < w.heap.size + 1; omega)
  rw [e, cell_in (heap_alloc_last w (.cells c t)) o]
set_option maxRecDepth 10000 in
set_option maxHeartbeats 1000000 in
theorem recText_any (pg num kp ph tr s0 v0 s1 v1 th : Nat) (w : World) (h0 : num < 256) (h1 : kp < 256) (h2 : ph < 256) (h3 : tr < 256) (h4 : s0 < 256) (h5 : s1 < 256) (h6 : v0 ≤ 65535) (h7 : v1 ≤ 65535) (h8 : th < 256) :
    Calls Tryz.prog 105 #[recV pg num kp ph tr s0 v0 s1 v1 th] w fun e w' => e = .returned (.string (recP num kp ph tr s0 v0 s1 v1 th)) ∧ Below w.heap.size w w' := by
  have HE := hide (recP_is num kp ph tr s0 v0 s1 v1 th)
  have hr1 := six_run (w.alloc (.cells #[.int .i64 pg, .int .i64 num, .int .i64 kp, .int .i64 ph, .int .i64 tr, .int .i64 s0, .int .i64 v0, .int .i64 s1, .int .i64 v1, .int .i64 th] 133)) num kp ph tr s0 s1
  simp only [World.size_alloc] at hr1
  have Z1 : (M.bytesOf [num, kp, ph, tr, s0, s1]).size ≤ 6 := Nat.le_refl _
  generalize M.bytesOf [num, kp, ph, tr, s0, s1] = T1 at *
  have Z4 : (M.bytesOf [th, 0, 0, 0, 0, num]).size ≤ 6 := Nat.le_refl _
  have HR3 := hide (fun W => tail_run W th num)
  generalize M.bytesOf [th, 0, 0, 0, 0, num] = T4 at *
  have p23 : ¬ 9223372036854775807 < (numT v0).size + (numT v1).size := by rw [numT_size, numT_size]; omega
  go_enter Tryz.func105, Tryz.ntmps105
  go_wp2_with fail
  clear hr1
  have HB0 : Hid (Below (w.heap.size + 1) (w.alloc (.cells #[.int .i64 pg, .int .i64 num, .int .i64 kp, .int .i64 ph, .int .i64 tr, .int .i64 s0, .int .i64 v0, .int .i64 s1, .int .i64 v1, .int .i64 th] 133)) ((w.alloc (.cells #[.int .i64 pg, .int .i64 num, .int .i64 kp, .int .i64 ph, .int .i64 tr, .int .i64 s0, .int .i64 v0, .int .i64 s1, .int .i64 v1, .int .i64 th] 133)).alloc (.cells #[.int .u8 (num : Int), .int .u8 (kp : Int), .int .u8 (ph : Int), .int .u8 (tr : Int), .int .u8 (s0 : Int), .int .u8 (s1 : Int)] 5))) := (Below.refl _ _).alloc (by simp) _
  have hz0 : w.heap.size + 1 ≤ ((w.alloc (.cells #[.int .i64 pg, .int .i64 num, .int .i64 kp, .int .i64 ph, .int .i64 tr, .int .i64 s0, .int .i64 v0, .int .i64 s1, .int .i64 v1, .int .i64 th] 133)).alloc (.cells #[.int .u8 (num : Int), .int .u8 (kp : Int), .int .u8 (ph : Int), .int .u8 (tr : Int), .int .u8 (s0 : Int), .int .u8 (s1 : Int)] 5)).heap.size := by simp
  generalize ((w.alloc (.cells #[.int .i64 pg, .int .i64 num, .int .i64 kp, .int .i64 ph, .int .i64 tr, .int .i64 s0, .int .i64 v0, .int .i64 s1, .int .i64 v1, .int .i64 th] 133)).alloc (.cells #[.int .u8 (num : Int), .int .u8 (kp : Int), .int .u8 (ph : Int), .int .u8 (tr : Int), .int .u8 (s0 : Int), .int .u8 (s1 : Int)] 5)) = W at *
  have c6 : W.cell? ⟨w.heap.size, 6, none⟩ = some (.int .i64 v0) := box_cell (unhide HB0) 6
  have c8 : W.cell? ⟨w.heap.size, 8, none⟩ = some (.int .i64 v1) := box_cell (unhide HB0) 8
  go_region_held3 (fun X => X.cell? ⟨w.heap.size, 6, none⟩ = some (.int .i64 v0) ∧ X.cell? ⟨w.heap.size, 8, none⟩ = some (.int .i64 v1)) (first | go_keep | exact ⟨box_cell hbN 6, box_cell hbN 8⟩) ((go_at_call 131; refine (numText_cum _ _ (by omega) (by omega) (by first | exact hzN | exact hz0) (by first | exact hbN | exact (unhide HB0).drew)).mono ?_; rintro e wN ⟨rfl, hbN, hzN⟩))
  have c1 : wN.cell? ⟨w.heap.size, 1, none⟩ = some (.int .i64 num) := box_cell hbN 1
  have c9 : wN.cell? ⟨w.heap.size, 9, none⟩ = some (.int .i64 th) := box_cell hbN 9
  have hr3 := unhide HR3 wN
  have HBN := hide (one_alloc hbN)
  have HZN := hide hzN
  have hE2 : T1 ++ (numT v0 ++ numT v1) ++ T4 = recP num kp ph tr s0 v0 s1 v1 th := HE.out
  have HE2 := hide hE2
  have Z5 : (numT v0 ++ numT v1).size = 4 := by rw [ByteArray.size_append, numT_size, numT_size]
  have Z6 := Nat.le_of_eq Z5
  generalize numT v0 ++ numT v1 = T5 at *
  have p1 : ¬ 9223372036854775807 < T1.size + T5.size := by omega
  have p2 : ¬ 9223372036854775807 < T1.size + T5.size + T4.size := by omega
  clear hE2 Z5 HE p23 hbN hzN c6 c8 HR3 HB0 hz0
  go_wp2
  go_ret
  exact ⟨ret_string HE2.out, (unhide HBN).alloc (by have := HZN.out; omega) _⟩
end Go.Proofs.YtjfmiomopfjecabGreat

/- Records that follow others, and the chunks that are there. -/
namespace Go.Proofs.YtjfmiomopfjecabGreat
open Go.RowKit Go.Lib

/- what lies in boxes behind a call that leaves them alone -/
theorem box1 {w w1 : World} {c1 : Array Value} {t1 : TypeId} (h : Below (w.alloc (.cells c1 t1)).heap.size (w.alloc (.cells c1 t1)) w1) :
    (∀ o, w1.cell? ⟨w.heap.size, o, none⟩ = c1[o]?) ∧ (∀ o, w1.frozen? ⟨w.heap.size, o, none⟩ = false) ∧ w.heap.size < w1.heap.size ∧ Below w.heap.size w w1 := by
  obtain ⟨a, b⟩ := block_facts ((h.block w.heap.size (by simp)).trans (last_block _ _ rfl))
  have hs := h.size
  simp only [World.size_alloc] at hs
  exact ⟨a, b, by omega, one_alloc (h.mono (by simp))⟩
theorem box2 {w w1 : World} {c1 c2 : Array Value} {t1 t2 : TypeId} (h : Below ((w.alloc (.cells c1 t1)).alloc (.cells c2 t2)).heap.size ((w.alloc (.cells c1 t1)).alloc (.cells c2 t2)) w1) :
    (∀ o, w1.cell? ⟨w.heap.size, o, none⟩ = c1[o]?) ∧ (∀ o, w1.frozen? ⟨w.heap.size, o, none⟩ = false) ∧ (∀ o, w1.cell? ⟨w.heap.size + 1, o, none⟩ = c2[o]?) ∧ (∀ o, w1.frozen? ⟨w.heap.size + 1, o, none⟩ = false) ∧ w.heap.size + 1 < w1.heap.size ∧ Below w.heap.size w w1 := by
  obtain ⟨a, b⟩ := block_facts ((h.block w.heap.size (by simp; omega)).trans (first_block _ _ _))
  obtain ⟨c, d⟩ := block_facts ((h.block (w.heap.size + 1) (by simp)).trans (last_block _ _ (by simp)))
  have hs := h.size
  simp only [World.size_alloc] at hs
  exact ⟨a, b, c, d, by omega, two_alloc (h.mono (by simp))⟩
theorem kept_block {X W : World} {g : Nat} {o : Obj} (h : Below X.heap.size X W) (hX : X.heap[g]? = some o) : W.heap[g]? = some o :=
  (h.block g (Array.getElem?_eq_some_iff.1 hX).1).trans hX
theorem drew_block {X : World} {g : Nat} {o : Obj} (hX : X.heap[g]? = some o) : X.drew.heap[g]? = some o := hX
theorem set_block {X : World} {g h o : Nat} {u : Value} {b : Obj} (hX : X.heap[g]? = some b) (hne : ¬ g = h) : (X.setCell ⟨h, o, none⟩ u).heap[g]? = some b := (Below.heap_setCell _ _ _ _ hne).trans hX
theorem alloc_block {X : World} {g : Nat} {o : Obj} (hX : X.heap[g]? = some o) (o2 : Obj) : (X.alloc o2).heap[g]? = some o :=
  (Below.heap_alloc _ _ _ (Array.getElem?_eq_some_iff.1 hX).1).trans hX
theorem blk1 {w w1 : World} {o1 : Obj} (h : Below (w.alloc o1).heap.size (w.alloc o1) w1) : w1.heap[w.heap.size]? = some o1 ∧ w.heap.size < w1.heap.size ∧ Below w.heap.size w w1 := by
  have hs := h.size
  simp only [World.size_alloc] at hs
  exact ⟨kept_block h (last_block _ _ rfl), by omega, one_alloc (h.mono (by simp))⟩
theorem blk2 {w w1 : World} {o1 o2 : Obj} (h : Below ((w.alloc o1).alloc o2).heap.size ((w.alloc o1).alloc o2) w1) : w1.heap[w.heap.size]? = some o1 ∧ w1.heap[w.heap.size + 1]? = some o2 ∧ w.heap.size + 1 < w1.heap.size ∧ Below w.heap.size w w1 := by
  have hs := h.size
  simp only [World.size_alloc] at hs
  exact ⟨kept_block h (first_block _ _ _), kept_block h (last_block _ _ (by simp)), by omega, two_alloc (h.mono (by simp))⟩
theorem blk3 {w w1 : World} {o1 o2 o3 : Obj} (h : Below (((w.alloc o1).alloc o2).alloc o3).heap.size (((w.alloc o1).alloc o2).alloc o3) w1) : w1.heap[w.heap.size]? = some o1 ∧ w1.heap[w.heap.size + 1]? = some o2 ∧ w1.heap[w.heap.size + 1 + 1]? = some o3 ∧ w.heap.size + 1 + 1 < w1.heap.size ∧ Below w.heap.size w w1 := by
  have hs := h.size
  simp only [World.size_alloc] at hs
  exact ⟨kept_block h (alloc_block (first_block _ _ _) _), kept_block h (alloc_block (last_block _ _ (by simp)) _), kept_block h (last_block _ _ (by simp)), by omega, two_alloc (((Below.refl _ _).alloc (by simp) _).trans (h.mono (by simp)))⟩
theorem bset {B : Nat} {w W : World} {g o : Nat} {v : Value} (hle : B ≤ g) (h : Below B w W) : Below B w (W.setCell ⟨g, o, none⟩ v) := h.setCell hle v
theorem balloc {B : Nat} {w W : World} {o : Obj} (hle : B ≤ W.heap.size) (h : Below B w W) : Below B w (W.alloc o) := h.alloc hle o
theorem bdrew {B : Nat} {w W : World} (h : Below B w W) : Below B w W.drew := h.drew
theorem bvia {B : Nat} {w X W : World} (hX : Below X.heap.size X W) (hle : B ≤ X.heap.size) (h : Below B w X) : Below B w W := h.trans (hX.mono hle)
set_option maxRecDepth 10000 in
set_option maxHeartbeats 1000000 in
theorem recWith_any (pg num kp ph tr s0 v0 s1 v1 th i : Nat) (w : World) (hp : pg ≤ 1) (hn : num < 256) (hth : th < 256) (hi : i < 6) (hno : th / 2 ^ i % 2 ≠ 1) :
    Calls Tryz.prog 168 #[recV pg num kp ph tr s0 v0 s1 v1 th, .int .i64 i] w fun e w' => e = .returned (recV (1 - pg : Nat) ((num + 1) % 256 : Nat) kp ph tr s0 v0 s1 v1 (th + 2 ^ i : Nat)) ∧ Below w.heap.size w w' := by
  have hB : 2 ^ i < 256 := Nat.lt_of_lt_of_le (Nat.pow_lt_pow_right (by omega) hi) (by decide)
  have HO : Hid (th ||| 2 ^ i = th + 2 ^ i) := or_bit hth hi hno
  have hor := M.or_i64 th (2 ^ i) (by omega) (by omega)
  have hbit := hide (fun W => recBit_any i W hi)
  clear hno
  generalize 2 ^ i = B at *
  go_enter Tryz.func168, Tryz.ntmps168
  go_wp2_with fail
  refine (recNext_any pg num kp ph tr s0 v0 s1 v1 th _ hp hn).mono ?_
  rintro e w1 ⟨rfl, hb⟩
  obtain ⟨hy, hfy, hz, hfz, hs1, hb1⟩ := box2 hb
  have HB := hide hb1
  have hn1 : ¬ w.heap.size + 1 = w1.heap.size := by omega
  clear hb hb1 hy hfy
  generalize hN : (num + 1) % 256 = N at *
  generalize hP : 1 - pg = P at *
  have HN := hide hN
  have HP := hide hP
  clear hN hP
  go_wp2_with fail
  go_region_with ((go_at_call 143; refine (unhide hbit _).mono ?_; rintro e w' ⟨rfl, rfl⟩))
  all_goals
    go_wp2
    refine bodyPost_ret (v := recV P N kp ph tr s0 v0 s1 v1 (th ||| B : Nat)) (by simp [results, Tryz.results168, go_sem, hz, hs1]) rfl ⟨ret_rec (by rw [HP.out]) (by rw [HN.out]) rfl rfl rfl rfl rfl rfl rfl (by rw [HO.out]), ?_⟩
    repeat (first | with_reducible exact unhide HB | with_reducible exact Below.refl _ _ | with_reducible refine bdrew ?_ | (with_reducible refine brow ?_ ?_; (focus (first | omega | (simp; done) | (simp; omega)))) | (with_reducible refine bset ?_ ?_; (focus (first | omega | (simp; done) | (simp; omega)))) | (with_reducible refine balloc ?_ ?_; (focus (first | omega | (simp; done) | (simp; omega)))) | (with_reducible refine bvia (unhide HB1) ?_ ?_; (focus (first | omega | (simp; done) | (simp; omega)))) | (with_reducible refine bvia (unhide HB2) ?_ ?_; (focus (first | omega | (simp; done) | (simp; omega)))) | (with_reducible refine bvia (unhide HB3) ?_ ?_; (focus (first | omega | (simp; done) | (simp; omega)))) | (with_reducible refine bvia (unhide HB4) ?_ ?_; (focus (first | omega | (simp; done) | (simp; omega)))) | (with_reducible refine bvia (unhide HB5) ?_ ?_; (focus (first | omega | (simp; done) | (simp; omega)))) | (with_reducible refine bvia (unhide HB6) ?_ ?_; (focus (first | omega | (simp; done) | (simp; omega)))))
set_option maxRecDepth 10000 in
theorem recTrying_any (pg num kp ph tr s0 v0 s1 v1 th s v : Nat) (w : World) (hp : pg ≤ 1) (hn : num < 256) :
    Calls Tryz.prog 196 #[recV pg num kp ph tr s0 v0 s1 v1 th, .agg #[.int .i64 s, .int .i64 v]] w fun e w' => e = .returned (recV (1 - pg : Nat) ((num + 1) % 256 : Nat) kp 2 3 (if kp = 0 then s0 else s : Nat) (if kp = 0 then v0 else v : Nat) (if kp = 0 then s else s1 : Nat) (if kp = 0 then v else v1 : Nat) 0) ∧ Below w.heap.size w w' := by
  by_cases h0 : kp = 0
  · subst h0
    rw [if_pos rfl, if_pos rfl, if_pos rfl, if_pos rfl]
    go_enter Tryz.func196, Tryz.ntmps196
    go_wp2_with fail
    refine (recPhase_any pg num 0 ph tr s0 v0 s1 v1 th 2 3 _ hp hn).mono ?_
    rintro e w1 ⟨rfl, hb1⟩
    obtain ⟨-, k2, k3, hs1, hb⟩ := blk3 hb1
    obtain ⟨hx2, hf2⟩ := block_facts k2
    obtain ⟨hx3, hf3⟩ := block_facts k3
    have HB := hide hb
    have l2 : w.heap.size + 1 < w1.heap.size := (by omega); have n2 : ¬ w.heap.size + 1 = w1.heap.size := (by omega)
    have l3 : w.heap.size + 1 + 1 < w1.heap.size := (by omega); have n3 : ¬ w.heap.size + 1 + 1 = w1.heap.size := (by omega)
    clear hb hb1 k2 k3
    generalize hN : (num + 1) % 256 = N at *; generalize hP : 1 - pg = P at *; have HN := hide hN; have HP := hide hP; clear hN hP
    go_wp2
    refine bodyPost_ret (v := recV P N 0 2 3 s0 v0 s v 0) (by simp [results, Tryz.results196, go_sem, *]) rfl ⟨ret_rec (by rw [HP.out]) (by rw [HN.out]) rfl rfl rfl rfl rfl rfl rfl rfl, ?_⟩
    repeat (first | with_reducible exact unhide HB | with_reducible exact Below.refl _ _ | with_reducible refine bdrew ?_ | (with_reducible refine brow ?_ ?_; (focus (first | omega | (simp; done) | (simp; omega)))) | (with_reducible refine bset ?_ ?_; (focus (first | omega | (simp; done) | (simp; omega)))) | (with_reducible refine balloc ?_ ?_; (focus (first | omega | (simp; done) | (simp; omega)))) | (with_reducible refine bvia (unhide HB1) ?_ ?_; (focus (first | omega | (simp; done) | (simp; omega)))) | (with_reducible refine bvia (unhide HB2) ?_ ?_; (focus (first | omega | (simp; done) | (simp; omega)))) | (with_reducible refine bvia (unhide HB3) ?_ ?_; (focus (first | omega | (simp; done) | (simp; omega)))) | (with_reducible refine bvia (unhide HB4) ?_ ?_; (focus (first | omega | (simp; done) | (simp; omega)))) | (with_reducible refine bvia (unhide HB5) ?_ ?_; (focus (first | omega | (simp; done) | (simp; omega)))) | (with_reducible refine bvia (unhide HB6) ?_ ?_; (focus (first | omega | (simp; done) | (simp; omega)))))
  · rw [if_neg h0, if_neg h0, if_neg h0, if_neg h0]
    have h1 : ¬ (kp : Int) = 0 := by omega
    go_enter Tryz.func196, Tryz.ntmps196
    go_wp2_with fail
    refine (recPhase_any pg num kp ph tr s0 v0 s1 v1 th 2 3 _ hp hn).mono ?_
    rintro e w1 ⟨rfl, hb1⟩
    obtain ⟨-, k2, k3, hs1, hb⟩ := blk3 hb1
    obtain ⟨hx2, hf2⟩ := block_facts k2
    obtain ⟨hx3, hf3⟩ := block_facts k3
    have HB := hide hb
    have l2 : w.heap.size + 1 < w1.heap.size := (by omega); have n2 : ¬ w.heap.size + 1 = w1.heap.size := (by omega)
    have l3 : w.heap.size + 1 + 1 < w1.heap.size := (by omega); have n3 : ¬ w.heap.size + 1 + 1 = w1.heap.size := (by omega)
    clear hb hb1 k2 k3
    generalize hN : (num + 1) % 256 = N at *; generalize hP : 1 - pg = P at *; have HN := hide hN; have HP := hide hP; clear hN hP
    go_wp2
    refine bodyPost_ret (v := recV P N kp 2 3 s v s1 v1 0) (by simp [results, Tryz.results196, go_sem, *]) rfl ⟨ret_rec (by rw [HP.out]) (by rw [HN.out]) rfl rfl rfl rfl rfl rfl rfl rfl, ?_⟩
    repeat (first | with_reducible exact unhide HB | with_reducible exact Below.refl _ _ | with_reducible refine bdrew ?_ | (with_reducible refine brow ?_ ?_; (focus (first | omega | (simp; done) | (simp; omega)))) | (with_reducible refine bset ?_ ?_; (focus (first | omega | (simp; done) | (simp; omega)))) | (with_reducible refine balloc ?_ ?_; (focus (first | omega | (simp; done) | (simp; omega)))) | (with_reducible refine bvia (unhide HB1) ?_ ?_; (focus (first | omega | (simp; done) | (simp; omega)))) | (with_reducible refine bvia (unhide HB2) ?_ ?_; (focus (first | omega | (simp; done) | (simp; omega)))) | (with_reducible refine bvia (unhide HB3) ?_ ?_; (focus (first | omega | (simp; done) | (simp; omega)))) | (with_reducible refine bvia (unhide HB4) ?_ ?_; (focus (first | omega | (simp; done) | (simp; omega)))) | (with_reducible refine bvia (unhide HB5) ?_ ?_; (focus (first | omega | (simp; done) | (simp; omega)))) | (with_reducible refine bvia (unhide HB6) ?_ ?_; (focus (first | omega | (simp; done) | (simp; omega)))))
set_option maxRecDepth 10000 in
theorem recConfirmed_any (pg num kp ph tr s0 v0 s1 v1 th : Nat) (w : World) (hp : pg ≤ 1) (hn : num < 256) (hk : kp ≤ 1) :
    Calls Tryz.prog 170 #[recV pg num kp ph tr s0 v0 s1 v1 th] w fun e w' => e = .returned (recV (1 - pg : Nat) ((num + 1) % 256 : Nat) (1 - kp : Nat) 0 0 s0 v0 s1 v1 0) ∧ Below w.heap.size w w' := by
  go_enter Tryz.func170, Tryz.ntmps170
  go_wp2_with fail
  refine (recSteady_any pg num kp ph tr s0 v0 s1 v1 th _ hp hn).mono ?_
  rintro e w1 ⟨rfl, hb1⟩
  obtain ⟨k1, k2, hs1, hb⟩ := blk2 hb1
  obtain ⟨hx1, hf1⟩ := block_facts k1
  have HB := hide hb
  have K2 := hide k2
  have l1 : w.heap.size < w1.heap.size := (by omega); have n1 : ¬ w.heap.size = w1.heap.size := (by omega)
  have l2 : w.heap.size + 1 < w1.heap.size := (by omega); have n2 : ¬ w.heap.size + 1 = w1.heap.size := (by omega)
  clear hb hb1 k1 k2
  generalize hN : (num + 1) % 256 = N at *; generalize hP : 1 - pg = P at *; have HN := hide hN; have HP := hide hP; clear hN hP
  go_wp2_with fail
  refine (recOther_any pg num kp ph tr s0 v0 s1 v1 th _ hk).mono ?_
  rintro e w2 ⟨rfl, hb2⟩
  clear hx1 hf1
  obtain ⟨hx2, hf2⟩ := block_facts (kept_block hb2 (alloc_block (unhide K2) _))
  obtain ⟨k3, hs2, hb⟩ := blk1 hb2
  obtain ⟨hx3, hf3⟩ := block_facts k3
  have HB2 := hide hb
  clear hb hb2 k3
  have l3 : w1.heap.size < w2.heap.size := (by omega); have n3 : ¬ w1.heap.size = w2.heap.size := (by omega)
  have l4 : w.heap.size + 1 < w2.heap.size := (by omega); have n4 : ¬ w.heap.size + 1 = w2.heap.size := (by omega)
  generalize hK : 1 - kp = K at *
  have HK := hide hK
  clear hK
  go_wp2
  refine bodyPost_ret (v := recV P N K 0 0 s0 v0 s1 v1 0) (by simp [results, Tryz.results170, go_sem, *]) rfl ⟨ret_rec (by rw [HP.out]) (by rw [HN.out]) (by rw [HK.out]) rfl rfl rfl rfl rfl rfl rfl, ?_⟩
  repeat (first | with_reducible exact unhide HB | with_reducible exact Below.refl _ _ | with_reducible refine bdrew ?_ | (with_reducible refine brow ?_ ?_; (focus (first | omega | (simp; done) | (simp; omega)))) | (with_reducible refine bset ?_ ?_; (focus (first | omega | (simp; done) | (simp; omega)))) | (with_reducible refine balloc ?_ ?_; (focus (first | omega | (simp; done) | (simp; omega)))) | (with_reducible refine bvia (unhide HB1) ?_ ?_; (focus (first | omega | (simp; done) | (simp; omega)))) | (with_reducible refine bvia (unhide HB2) ?_ ?_; (focus (first | omega | (simp; done) | (simp; omega)))) | (with_reducible refine bvia (unhide HB3) ?_ ?_; (focus (first | omega | (simp; done) | (simp; omega)))) | (with_reducible refine bvia (unhide HB4) ?_ ?_; (focus (first | omega | (simp; done) | (simp; omega)))) | (with_reducible refine bvia (unhide HB5) ?_ ?_; (focus (first | omega | (simp; done) | (simp; omega)))) | (with_reducible refine bvia (unhide HB6) ?_ ?_; (focus (first | omega | (simp; done) | (simp; omega)))))
/-- how many of the first n chunks are not there; the first of them -/
def missN (th n : Nat) : Nat := ((List.range n).filter fun i => decide (th / 2 ^ i % 2 = 0)).length
theorem missN_succ (th n : Nat) : missN th (n + 1) = missN th n + if th / 2 ^ n % 2 = 0 then 1 else 0 := by
  unfold missN
  rw [List.range_succ, List.filter_append, List.length_append]
  by_cases h : th / 2 ^ n % 2 = 0
  · rw [if_pos h, List.filter_cons_of_pos (by simpa using h)]; rfl
  · rw [if_neg h, List.filter_cons_of_neg (by simpa using h)]; rfl
theorem missN_le (th n : Nat) : missN th n ≤ n := by
  unfold missN
  exact Nat.le_trans (List.length_filter_le _ _) (by simp)
set_option maxRecDepth 10000 in
theorem recMissing_any (pg num kp ph tr s0 v0 s1 v1 th n : Nat) (w : World) (hth : th < 256) (hn : n ≤ 6) :
    Calls Tryz.prog 84 #[recV pg num kp ph tr s0 v0 s1 v1 th, .int .i64 n] w fun e w' => e = .returned (.int .i64 (missN th n)) ∧ Below w.heap.size w w' := by
  go_enter Tryz.func84, Tryz.ntmps84
  go_wp2_with fail
  go_loopw [5, 6] (fun c i wr => ∃ k : Nat, k ≤ n ∧ i = .int .i64 k ∧ c = .int .i64 (missN th k) ∧ Below (w.heap.size + 1) (w.alloc (.cells #[.int .i64 pg, .int .i64 num, .int .i64 kp, .int .i64 ph, .int .i64 tr, .int .i64 s0, .int .i64 v0, .int .i64 s1, .int .i64 v1, .int .i64 th] 133)) wr) (fun _ i _ => n - (intOf i).toNat)
  case atStart => exact ⟨0, by omega, rfl, rfl, Below.refl _ _⟩
  case round =>
    obtain ⟨k, hk, rfl, rfl, hbel⟩ := hrel
    have hc := box_cell hbel
    have hle := missN_le th k
    by_cases hlt : k < n
    · have HS := hide (missN_succ th k)
      have HBel := hide hbel
      clear hbel
      by_cases hb : th / 2 ^ k % 2 = 1
      · have HD : Hid (decide (th / 2 ^ k % 2 = 1) = true) := decide_eq_true hb
        have HS2 : Hid (missN th (k + 1) = missN th k) := by rw [HS.out, if_neg (by omega)]; rfl
        clear HS hb
        generalize missN th k = m at *
        go_wp2_with fail
        refine (recHas_any pg num kp ph tr s0 v0 s1 v1 th k _ hth (by omega)).mono ?_
        rintro e w1 ⟨rfl, hb1⟩
        rw [HD.out]
        have HB1 := hide ((unhide HBel).trans (hb1.mono (by have := (unhide HBel).size; simp at this; omega)))
        clear hb1
        go_wp2
        go_roundw
        case rel => exact ⟨k + 1, by omega, by go_num, by rw [HS2.out], unhide HB1⟩
        case measure => simp [intOf]; omega
      · have HD : Hid (decide (th / 2 ^ k % 2 = 1) = false) := decide_eq_false hb
        have HS2 : Hid (missN th (k + 1) = missN th k + 1) := by rw [HS.out, if_pos (by omega)]; rfl
        clear HS hb
        generalize missN th k = m at *
        go_wp2_with fail
        refine (recHas_any pg num kp ph tr s0 v0 s1 v1 th k _ hth (by omega)).mono ?_
        rintro e w1 ⟨rfl, hb1⟩
        rw [HD.out]
        have HB1 := hide ((unhide HBel).trans (hb1.mono (by have := (unhide HBel).size; simp at this; omega)))
        clear hb1
        go_wp2
        go_roundw
        case rel => exact ⟨k + 1, by omega, by go_num, by rw [HS2.out]; go_num, unhide HB1⟩
        case measure => simp [intOf]; omega
    · have hkn : k = n := by omega
      subst hkn
      have HB : Hid (Below w.heap.size w wr) := one_alloc hbel
      clear hbel
      go_wp2
      go_ret
      exact ⟨rfl, unhide HB⟩
set_option maxRecDepth 10000 in
theorem recWanted_some (pg num kp ph tr s0 v0 s1 v1 th n i : Nat) (w : World) (hth : th < 256) (hn : n ≤ 6) (hi : i < n) (hno : th / 2 ^ i % 2 = 0) (hall : ∀ j, j < i → th / 2 ^ j % 2 = 1) :
    Calls Tryz.prog 184 #[recV pg num kp ph tr s0 v0 s1 v1 th, .int .i64 n] w fun e w' => e = .returned (.int .i64 i) ∧ Below w.heap.size w w' := by
  have HA := hide hall
  have HNo := hide hno
  clear hall hno
  go_enter Tryz.func184, Tryz.ntmps184
  go_wp2_with fail
  go_loopw [5] (fun i' wr => ∃ k : Nat, k ≤ i ∧ i' = .int .i64 k ∧ Below (w.heap.size + 1) (w.alloc (.cells #[.int .i64 pg, .int .i64 num, .int .i64 kp, .int .i64 ph, .int .i64 tr, .int .i64 s0, .int .i64 v0, .int .i64 s1, .int .i64 v1, .int .i64 th] 133)) wr) (fun i' _ => n - (intOf i').toNat)
  case atStart => exact ⟨0, by omega, rfl, Below.refl _ _⟩
  case round =>
    obtain ⟨k, hk, rfl, hbel⟩ := hrel
    have hc := box_cell hbel
    have hlt : k < n := by omega
    have HBel := hide hbel
    clear hbel
    by_cases hki : k < i
    · have HD : Hid (decide (th / 2 ^ k % 2 = 1) = true) := decide_eq_true (unhide HA k hki)
      go_wp2_with fail
      refine (recHas_any pg num kp ph tr s0 v0 s1 v1 th k _ hth (by omega)).mono ?_
      rintro e w1 ⟨rfl, hb1⟩
      rw [HD.out]
      have HB1 := hide ((unhide HBel).trans (hb1.mono (by have := (unhide HBel).size; simp at this; omega)))
      clear hb1
      go_wp2
      go_roundw
      case rel => exact ⟨k + 1, by omega, by go_num, unhide HB1⟩
      case measure => simp [intOf]; omega
    · have hkn : k = i := by omega
      subst hkn
      have HD : Hid (decide (th / 2 ^ k % 2 = 1) = false) := decide_eq_false (by have := HNo.out; omega)
      go_wp2_with fail
      refine (recHas_any pg num kp ph tr s0 v0 s1 v1 th k _ hth (by omega)).mono ?_
      rintro e w1 ⟨rfl, hb1⟩
      rw [HD.out]
      have HB1 := hide (one_alloc ((unhide HBel).trans (hb1.mono (by have := (unhide HBel).size; simp at this; omega))))
      clear hb1
      go_wp2
      go_ret
      exact ⟨rfl, unhide HB1⟩
set_option maxRecDepth 10000 in
theorem recWanted_none (pg num kp ph tr s0 v0 s1 v1 th n : Nat) (w : World) (hth : th < 256) (hn : n ≤ 6) (hall : ∀ j, j < n → th / 2 ^ j % 2 = 1) :
    Calls Tryz.prog 184 #[recV pg num kp ph tr s0 v0 s1 v1 th, .int .i64 n] w fun e w' => e = .returned (.int .i64 (-1)) ∧ Below w.heap.size w w' := by
  have HA := hide hall
  clear hall
  go_enter Tryz.func184, Tryz.ntmps184
  go_wp2_with fail
  go_loopw [5] (fun i' wr => ∃ k : Nat, k ≤ n ∧ i' = .int .i64 k ∧ Below (w.heap.size + 1) (w.alloc (.cells #[.int .i64 pg, .int .i64 num, .int .i64 kp, .int .i64 ph, .int .i64 tr, .int .i64 s0, .int .i64 v0, .int .i64 s1, .int .i64 v1, .int .i64 th] 133)) wr) (fun i' _ => n - (intOf i').toNat)
  case atStart => exact ⟨0, by omega, rfl, Below.refl _ _⟩
  case round =>
    obtain ⟨k, hk, rfl, hbel⟩ := hrel
    have hc := box_cell hbel
    by_cases hlt : k < n
    · have HBel := hide hbel
      clear hbel
      have HD : Hid (decide (th / 2 ^ k % 2 = 1) = true) := decide_eq_true (unhide HA k hlt)
      go_wp2_with fail
      refine (recHas_any pg num kp ph tr s0 v0 s1 v1 th k _ hth (by omega)).mono ?_
      rintro e w1 ⟨rfl, hb1⟩
      rw [HD.out]
      have HB1 := hide ((unhide HBel).trans (hb1.mono (by have := (unhide HBel).size; simp at this; omega)))
      clear hb1
      go_wp2
      go_roundw
      case rel => exact ⟨k + 1, by omega, by go_num, unhide HB1⟩
      case measure => simp [intOf]; omega
    · have HB := hide (one_alloc hbel)
      clear hbel
      go_wp2
      go_ret
      exact ⟨rfl, unhide HB⟩
end Go.Proofs.YtjfmiomopfjecabGreat

/- Manifests in plain words, as the program reads them: what is beyond a text counts as 0. -/
namespace Go.Proofs.YtjfmiomopfjecabGreat.M

def numAt (g : Nat → Nat) (i : Nat) : Nat := g i * 256 + g (i + 1)
def sealX (g : Nat → Nat) : Option Nat :=
  if g 4 < 1 ∨ 96 < g 4 ∨ g 5 < 1 ∨ 96 < g 5 then none
  else if g (8 + 2 * chunksN (g 4)) = 0 then some (9 + 2 * chunksN (g 4))
  else if g (8 + 2 * chunksN (g 4)) = 1 then
    (if 8 < g (9 + 2 * chunksN (g 4)) ∨ 8 < g (10 + 2 * chunksN (g 4)) then none
     else some (11 + 2 * chunksN (g 4) + g (9 + 2 * chunksN (g 4)) + g (10 + 2 * chunksN (g 4))))
  else none
theorem sealX_of {g : Nat → Nat} {L at_ : Nat} (h : sealOf g L = some at_) : sealX g = some at_ := by
  unfold sealOf at h
  unfold sealX
  by_cases h1 : L ≤ 5 ∨ g 4 < 1 ∨ 96 < g 4 ∨ g 5 < 1 ∨ 96 < g 5
  · rw [if_pos h1] at h; cases h
  rw [if_neg h1] at h
  rw [if_neg (by omega)]
  by_cases h2 : L ≤ 8 + 2 * chunksN (g 4)
  · rw [if_pos h2] at h; cases h
  rw [if_neg h2] at h
  by_cases h3 : g (8 + 2 * chunksN (g 4)) = 0
  · rw [if_pos h3] at h ⊢; exact h
  rw [if_neg h3] at h ⊢
  by_cases h4 : g (8 + 2 * chunksN (g 4)) = 1
  · rw [if_pos h4] at h ⊢
    by_cases h5 : L ≤ 8 + 2 * chunksN (g 4) + 2 ∨ 8 < g (9 + 2 * chunksN (g 4)) ∨ 8 < g (10 + 2 * chunksN (g 4))
    · rw [if_pos h5] at h; cases h
    · rw [if_neg h5] at h
      rw [if_neg (by omega)]
      exact h
  · rw [if_neg h4] at h; cases h
theorem sealX_le {g : Nat → Nat} {at_ : Nat} (h : sealX g = some at_) : at_ ≤ 39 ∧ 9 + 2 * chunksN (g 4) ≤ at_ ∧ 1 ≤ g 4 ∧ g 4 ≤ 96 ∧ 1 ≤ g 5 ∧ g 5 ≤ 96 ∧ chunksN (g 4) ≤ 6 := by
  unfold sealX at h
  by_cases h1 : g 4 < 1 ∨ 96 < g 4 ∨ g 5 < 1 ∨ 96 < g 5
  · rw [if_pos h1] at h; cases h
  rw [if_neg h1] at h
  have hc : chunksN (g 4) ≤ 6 := by unfold chunksN; omega
  by_cases h3 : g (8 + 2 * chunksN (g 4)) = 0
  · rw [if_pos h3] at h
    have := Option.some.inj h
    omega
  rw [if_neg h3] at h
  by_cases h4 : g (8 + 2 * chunksN (g 4)) = 1
  · rw [if_pos h4] at h
    by_cases h5 : 8 < g (9 + 2 * chunksN (g 4)) ∨ 8 < g (10 + 2 * chunksN (g 4))
    · rw [if_pos h5] at h; cases h
    · rw [if_neg h5] at h
      have := Option.some.inj h
      omega
  · rw [if_neg h4] at h; cases h
/-- the two ways to read a manifest come to the same -/
theorem sealOf_x {g : Nat → Nat} {L at_ : Nat} (h : sealX g = some at_) (hL : at_ ≤ L) : sealOf g L = some at_ := by
  have hle := sealX_le h
  unfold sealX at h
  unfold sealOf
  by_cases h1 : g 4 < 1 ∨ 96 < g 4 ∨ g 5 < 1 ∨ 96 < g 5
  · rw [if_pos h1] at h; cases h
  rw [if_neg h1] at h
  rw [if_neg (by omega), if_neg (by omega)]
  by_cases h3 : g (8 + 2 * chunksN (g 4)) = 0
  · rw [if_pos h3] at h ⊢; exact h
  rw [if_neg h3] at h ⊢
  by_cases h4 : g (8 + 2 * chunksN (g 4)) = 1
  · rw [if_pos h4] at h ⊢
    by_cases h5 : 8 < g (9 + 2 * chunksN (g 4)) ∨ 8 < g (10 + 2 * chunksN (g 4))
    · rw [if_pos h5] at h; cases h
    · rw [if_neg h5] at h
      have := Option.some.inj h
      rw [if_neg (by omega)]
      exact h
  · rw [if_neg h4] at h; cases h
def isMan (key s : ByteArray) : Bool :=
  match sealX (bz s) with
  | none => false
  | some at_ => decide (s.size = at_ + 2) && decide (bz s at_ * 256 + bz s (at_ + 1) = crc (key ++ mk at_ (bz s)).data.toList)
theorem isMan_is (key s : ByteArray) : isMan key s = isManifest key s := by
  unfold isMan isManifest
  cases h : sealX (bz s) with
  | none =>
    cases h2 : sealOf (bz s) s.size with
    | none => rfl
    | some a => rw [sealX_of h2] at h; cases h
  | some at_ =>
    by_cases hs : s.size = at_ + 2
    · rw [sealOf_x h (by omega)]
    · cases h2 : sealOf (bz s) s.size with
      | none => simp [hs]
      | some a =>
        have e := sealX_of h2
        rw [h] at e
        have e2 := Option.some.inj e
        subst e2
        rfl
/-- the sums of the first k chunks, the example -/
def sumsL (g : Nat → Nat) (k : Nat) : List Int := (List.range k).map fun i => (numAt g (8 + 2 * i) : Int)
theorem sumsL_succ (g : Nat → Nat) (k : Nat) : sumsL g (k + 1) = sumsL g k ++ [(numAt g (8 + 2 * k) : Int)] := by
  unfold sumsL
  rw [List.range_succ, List.map_append]
  rfl
theorem sumsL_length (g : Nat → Nat) (k : Nat) : (sumsL g k).length = k := by simp [sumsL]
theorem sumsL_at (g : Nat → Nat) {k i : Nat} (h : i < k) : (sumsL g k).getD i 0 = (numAt g (8 + 2 * i) : Int) := by simp [sumsL, h]
def exB (g : Nat → Nat) : Bool := decide (g (8 + 2 * chunksN (g 4)) = 1)
def exQ (g : Nat → Nat) : ByteArray := if g (8 + 2 * chunksN (g 4)) = 1 then mk (g (9 + 2 * chunksN (g 4))) fun j => g (11 + 2 * chunksN (g 4) + j) else ⟨#[]⟩
def exA (g : Nat → Nat) : ByteArray := if g (8 + 2 * chunksN (g 4)) = 1 then mk (g (10 + 2 * chunksN (g 4))) fun j => g (11 + 2 * chunksN (g 4) + g (9 + 2 * chunksN (g 4)) + j) else ⟨#[]⟩
end Go.Proofs.YtjfmiomopfjecabGreat.M

/- Manifests, walked. -/
namespace Go.Proofs.YtjfmiomopfjecabGreat
open Go.RowKit Go.Lib

abbrev manC (ver base ps is sm : Int) (v : Value) (ex : Bool) (q a : ByteArray) : Array Value := #[.int .i64 ver, .int .i64 base, .int .i64 ps, .int .i64 is, .int .i64 sm, v, .bool ex, .string q, .string a]
abbrev manV (ver base ps is sm : Int) (v : Value) (ex : Bool) (q a : ByteArray) : Value := .agg #[.int .i64 ver, .int .i64 base, .int .i64 ps, .int .i64 is, .int .i64 sm, v, .bool ex, .string q, .string a]
abbrev manZ : Value := manV 0 0 0 0 0 (.slice none 0 0) false ⟨#[]⟩ ⟨#[]⟩
/-- the manifest that a text tells, its sums in the slice v -/
abbrev manOf (g : Nat → Nat) (v : Value) : Value := manV (M.numAt g 0) (M.numAt g 2) (g 4) (g 5) (M.numAt g 6) v (M.exB g) (M.exQ g) (M.exA g)
theorem ret_man {a0 a1 a2 a3 a4 b0 b1 b2 b3 b4 : Int} {v : Value} {x y : Bool} {q r s t : ByteArray} (h0 : a0 = b0) (h1 : a1 = b1) (h2 : a2 = b2) (h3 : a3 = b3) (h4 : a4 = b4) (h5 : x = y) (h6 : q = r) (h7 : s = t) :
    manV a0 a1 a2 a3 a4 v x q s = manV b0 b1 b2 b3 b4 v y r t := by rw [h0, h1, h2, h3, h4, h5, h6, h7]
set_option maxRecDepth 10000 in
theorem manHead_any (s : ByteArray) (w : World) (hs : s.size ≤ maxLen) :
    Calls Tryz.prog 176 #[.string s] w fun e w' => e = .returned (manV (M.numAt (M.bz s) 0) (M.numAt (M.bz s) 2) (M.bz s 4) (M.bz s 5) (M.numAt (M.bz s) 6) (.slice none 0 0) false ⟨#[]⟩ ⟨#[]⟩) ∧ Below w.heap.size w w' := by
  have HL := hide hs
  go_enter Tryz.func176, Tryz.ntmps176
  go_wp2_with fail
  refine (wordNumber_any s _ 0 _ (unhide HL) rfl (by omega)).mono ?_
  rintro e w' ⟨rfl, rfl⟩
  go_wp2_with fail
  refine (wordNumber_any s _ 2 _ (unhide HL) rfl (by omega)).mono ?_
  rintro e w' ⟨rfl, rfl⟩
  go_wp2_with fail
  refine (wordByte_at s _ 4 _ (unhide HL) rfl).mono ?_
  rintro e w' ⟨rfl, rfl⟩
  go_wp2_with fail
  refine (wordByte_at s _ 5 _ (unhide HL) rfl).mono ?_
  rintro e w' ⟨rfl, rfl⟩
  go_wp2_with fail
  refine (wordNumber_any s _ 6 _ (unhide HL) rfl (by omega)).mono ?_
  rintro e w' ⟨rfl, rfl⟩
  go_wp2
  refine bodyPost_ret (v := manV (M.bz s 0 * 256 + M.bz s 1 : Nat) (M.bz s 2 * 256 + M.bz s 3 : Nat) (M.bz s 4) (M.bz s 5) (M.bz s 6 * 256 + M.bz s 7 : Nat) (.slice none 0 0) false ⟨#[]⟩ ⟨#[]⟩) (by simp [results, Tryz.results176, go_sem]) rfl ⟨rfl, ?_⟩
  repeat (first | with_reducible exact unhide HB | with_reducible exact Below.refl _ _ | with_reducible refine bdrew ?_ | (with_reducible refine brow ?_ ?_; (focus (first | omega | (simp; done) | (simp; omega)))) | (with_reducible refine bset ?_ ?_; (focus (first | omega | (simp; done) | (simp; omega)))) | (with_reducible refine balloc ?_ ?_; (focus (first | omega | (simp; done) | (simp; omega)))) | (with_reducible refine bvia (unhide HB1) ?_ ?_; (focus (first | omega | (simp; done) | (simp; omega)))) | (with_reducible refine bvia (unhide HB2) ?_ ?_; (focus (first | omega | (simp; done) | (simp; omega)))) | (with_reducible refine bvia (unhide HB3) ?_ ?_; (focus (first | omega | (simp; done) | (simp; omega)))) | (with_reducible refine bvia (unhide HB4) ?_ ?_; (focus (first | omega | (simp; done) | (simp; omega)))) | (with_reducible refine bvia (unhide HB5) ?_ ?_; (focus (first | omega | (simp; done) | (simp; omega)))) | (with_reducible refine bvia (unhide HB6) ?_ ?_; (focus (first | omega | (simp; done) | (simp; omega)))))
set_option maxRecDepth 10000 in
theorem manChunks_any (ver base sm is : Int) (ps : Nat) (v : Value) (ex : Bool) (q a : ByteArray) (w : World) (hp : ps ≤ 255) :
    Calls Tryz.prog 85 #[manV ver base ps is sm v ex q a] w fun e w' => e = .returned (.int .i64 (M.chunksN ps)) ∧ Below w.heap.size w w' := by
  go_enter Tryz.func85, Tryz.ntmps85
  go_wp2_with fail
  refine (needed_any ps _ (by omega)).mono ?_
  rintro e w' ⟨rfl, rfl⟩
  generalize hc : M.chunksN ps = c at *
  have HC := hide hc
  clear hc
  go_wp2
  go_ret
  exact ⟨ret_int (by rw [HC.out]), (Below.refl _ _).alloc (Nat.le_refl _) _⟩
set_option maxRecDepth 10000 in
theorem manSize_any (ver base sm is : Int) (ps i : Nat) (v : Value) (ex : Bool) (q a : ByteArray) (w : World) (hp : ps ≤ 255) (hi : i ≤ 10) (hle : 16 * i ≤ ps) :
    Calls Tryz.prog 188 #[manV ver base ps is sm v ex q a, .int .i64 i] w fun e w' => e = .returned (.int .i64 (M.chunkLen ps i)) ∧ Below w.heap.size w w' := by
  have HE : Hid (M.chunkLen ps i = min 16 (ps - 16 * i)) := rfl
  by_cases h : 16 < ps - 16 * i
  · have h1 : (16 : Int) < (ps : Int) - (i : Int) * 16 := by omega
    go_enter Tryz.func188, Tryz.ntmps188
    go_wp2
    go_ret
    exact ⟨ret_int (by rw [HE.out]; omega), (Below.refl _ _).alloc (Nat.le_refl _) _⟩
  · have h1 : ¬ (16 : Int) < (ps : Int) - (i : Int) * 16 := by omega
    go_enter Tryz.func188, Tryz.ntmps188
    go_wp2
    go_ret
    exact ⟨ret_int (by rw [HE.out]; omega), (Below.refl _ _).alloc (Nat.le_refl _) _⟩
theorem ret_man3 {u v : Value} {n m : Int} {b : Bool} (h : u = v) (h2 : n = m) : Ending.returned (.tuple #[u, .int .i64 n, .bool b]) = .returned (.tuple #[v, .int .i64 m, .bool b]) := by rw [h, h2]
set_option maxRecDepth 10000 in
theorem manWith_no (ver base ps is sm : Int) (p : Option Addr) (n c : Nat) (s : ByteArray) (at_ : Nat) (k : Int) (w : World) (hs : s.size ≤ maxLen) (hk : k = at_) (ha : at_ ≤ 1000) (h : 8 < M.bz s at_ ∨ 8 < M.bz s (at_ + 1)) :
    Calls Tryz.prog 177 #[manV ver base ps is sm (.slice p n c) false ⟨#[]⟩ ⟨#[]⟩, .string s, .int .i64 k] w fun e w' => e = .returned (.tuple #[manZ, .int .i64 0, .bool false]) ∧ Below w.heap.size w w' := by
  have HL := hide hs
  subst hk
  have hq := M.bz_lt s at_
  have hr := M.bz_lt s (at_ + 1)
  by_cases h8 : 8 < M.bz s at_
  all_goals
    go_enter Tryz.func177, Tryz.ntmps177
    go_wp2_with fail
    refine (wordByte_at s _ at_ _ (unhide HL) rfl).mono ?_
    rintro e w' ⟨rfl, rfl⟩
    generalize M.bz s at_ = q at *
    go_wp2_with fail
    refine (wordByte_at s _ (at_ + 1) _ (unhide HL) (by omega)).mono ?_
    rintro e w' ⟨rfl, rfl⟩
    generalize M.bz s (at_ + 1) = r at *
    first
    | (have h9 : (8 : Int) < (q : Int) := (by omega); go_wp2; refine bodyPost_ret (v := .tuple #[manZ, .int .i64 0, .bool false]) (by simp [results, Tryz.results177, go_sem]) rfl ⟨rfl, ?_⟩; repeat (first | with_reducible exact unhide HB | with_reducible exact Below.refl _ _ | with_reducible refine bdrew ?_ | (with_reducible refine brow ?_ ?_; (focus (first | omega | (simp; done) | (simp; omega)))) | (with_reducible refine bset ?_ ?_; (focus (first | omega | (simp; done) | (simp; omega)))) | (with_reducible refine balloc ?_ ?_; (focus (first | omega | (simp; done) | (simp; omega)))) | (with_reducible refine bvia (unhide HB1) ?_ ?_; (focus (first | omega | (simp; done) | (simp; omega)))) | (with_reducible refine bvia (unhide HB2) ?_ ?_; (focus (first | omega | (simp; done) | (simp; omega)))) | (with_reducible refine bvia (unhide HB3) ?_ ?_; (focus (first | omega | (simp; done) | (simp; omega)))) | (with_reducible refine bvia (unhide HB4) ?_ ?_; (focus (first | omega | (simp; done) | (simp; omega)))) | (with_reducible refine bvia (unhide HB5) ?_ ?_; (focus (first | omega | (simp; done) | (simp; omega)))) | (with_reducible refine bvia (unhide HB6) ?_ ?_; (focus (first | omega | (simp; done) | (simp; omega))))))
    | (have h9 : ¬ (8 : Int) < (q : Int) := (by omega); have h10 : (8 : Int) < (r : Int) := (by omega); go_wp2; refine bodyPost_ret (v := .tuple #[manZ, .int .i64 0, .bool false]) (by simp [results, Tryz.results177, go_sem]) rfl ⟨rfl, ?_⟩; repeat (first | with_reducible exact unhide HB | with_reducible exact Below.refl _ _ | with_reducible refine bdrew ?_ | (with_reducible refine brow ?_ ?_; (focus (first | omega | (simp; done) | (simp; omega)))) | (with_reducible refine bset ?_ ?_; (focus (first | omega | (simp; done) | (simp; omega)))) | (with_reducible refine balloc ?_ ?_; (focus (first | omega | (simp; done) | (simp; omega)))) | (with_reducible refine bvia (unhide HB1) ?_ ?_; (focus (first | omega | (simp; done) | (simp; omega)))) | (with_reducible refine bvia (unhide HB2) ?_ ?_; (focus (first | omega | (simp; done) | (simp; omega)))) | (with_reducible refine bvia (unhide HB3) ?_ ?_; (focus (first | omega | (simp; done) | (simp; omega)))) | (with_reducible refine bvia (unhide HB4) ?_ ?_; (focus (first | omega | (simp; done) | (simp; omega)))) | (with_reducible refine bvia (unhide HB5) ?_ ?_; (focus (first | omega | (simp; done) | (simp; omega)))) | (with_reducible refine bvia (unhide HB6) ?_ ?_; (focus (first | omega | (simp; done) | (simp; omega))))))
set_option maxRecDepth 10000 in
theorem manWith_yes (ver base ps is sm : Int) (p : Option Addr) (n c : Nat) (s : ByteArray) (at_ : Nat) (k : Int) (w : World) (hs : s.size ≤ maxLen) (hk : k = at_) (ha : at_ ≤ 1000) (h : M.bz s at_ ≤ 8) (h' : M.bz s (at_ + 1) ≤ 8) :
    Calls Tryz.prog 177 #[manV ver base ps is sm (.slice p n c) false ⟨#[]⟩ ⟨#[]⟩, .string s, .int .i64 k] w fun e w' => e = .returned (.tuple #[manV ver base ps is sm (.slice p n c) true (M.mk (M.bz s at_) fun j => M.bz s (at_ + 2 + j)) (M.mk (M.bz s (at_ + 1)) fun j => M.bz s (at_ + 2 + M.bz s at_ + j)), .int .i64 (at_ + 2 + M.bz s at_ + M.bz s (at_ + 1) : Nat), .bool true]) ∧ Below w.heap.size w w' := by
  have HL := hide hs
  subst hk
  have hz1 : ¬ w.heap.size = w.heap.size + 1 := by omega
  go_enter Tryz.func177, Tryz.ntmps177
  go_wp2_with fail
  refine (wordByte_at s _ at_ _ (unhide HL) rfl).mono ?_
  rintro e w' ⟨rfl, rfl⟩
  generalize hq : M.bz s at_ = q at *
  have HQ := hide hq
  clear hq
  go_wp2_with fail
  refine (wordByte_at s _ (at_ + 1) _ (unhide HL) (by omega)).mono ?_
  rintro e w' ⟨rfl, rfl⟩
  generalize hr : M.bz s (at_ + 1) = r at *
  have HR := hide hr
  clear hr
  have h9 : ¬ (8 : Int) < (q : Int) := by omega
  have h10 : ¬ (8 : Int) < (r : Int) := by omega
  go_wp2_with fail
  refine (padded_any s (at_ + 2) q _ _ (unhide HL) (by omega) (by omega) (by omega)).mono ?_
  rintro e w1 ⟨rfl, hb1⟩
  obtain ⟨k1, k2, hs1, hb⟩ := blk2 hb1
  obtain ⟨hx1, hf1⟩ := block_facts k1
  have K1 := hide k1
  have K2 := hide k2
  have HB := hide hb
  clear hb hb1 k1 k2
  have l1 : w.heap.size < w1.heap.size := (by omega); have n1 : ¬ w.heap.size = w1.heap.size := (by omega)
  have l2 : w.heap.size + 1 < w1.heap.size := (by omega); have n2 : ¬ w.heap.size + 1 = w1.heap.size := (by omega)
  generalize hQ : (M.mk q fun j => M.bz s (at_ + 2 + j)) = Q at *
  have HQT := hide hQ
  clear hQ
  go_wp2_with fail
  refine (padded_any s (at_ + 2 + q) r _ _ (unhide HL) (by omega) (by omega) (by omega)).mono ?_
  rintro e w2 ⟨rfl, hb2⟩
  generalize hA : (M.mk r fun j => M.bz s (at_ + 2 + q + j)) = A at *
  have HAT := hide hA
  clear hA hx1 hf1
  have k1 : w2.heap[w.heap.size]? = some (.cells (manC ver base ps is sm (.slice p n c) true Q ⟨#[]⟩) 143 (0, 0)) := kept_block hb2 ((setCell_in (unhide K1) 7 _).trans rfl)
  have k2 := kept_block hb2 (set_block (unhide K2) (by omega))
  obtain ⟨hx1, hf1⟩ := block_facts k1
  obtain ⟨hx2, hf2⟩ := block_facts k2
  have hs2 := hb2.size
  have e2 : (w1.setCell ⟨w.heap.size, 7, none⟩ (.string Q)).heap.size = w1.heap.size := by simp
  rw [e2] at hs2
  have HB2 : Hid (Below w.heap.size w w2) := ((unhide HB).setCell (by simp) _).trans (hb2.mono (by rw [e2]; omega))
  clear hb2 k1 k2 K1 K2 HB e2
  have HB := HB2
  clear HB2
  have l3 : w.heap.size < w2.heap.size := (by omega); have n3 : ¬ w.heap.size = w2.heap.size := (by omega)
  have l4 : w.heap.size + 1 < w2.heap.size := (by omega); have n4 : ¬ w.heap.size + 1 = w2.heap.size := (by omega)
  go_wp2
  refine bodyPost_ret (v := .tuple #[manV ver base ps is sm (.slice p n c) true Q A, .int .i64 ((at_ : Int) + 2 + q + r), .bool true]) (by simp [results, Tryz.results177, go_sem, *]) rfl ⟨ret_man3 (by rw [HQ.out, HR.out, HQT.out, HAT.out]) (by rw [HQ.out, HR.out]; omega), ?_⟩
  repeat (first | with_reducible exact unhide HB | with_reducible exact Below.refl _ _ | with_reducible refine bdrew ?_ | (with_reducible refine brow ?_ ?_; (focus (first | omega | (simp; done) | (simp; omega)))) | (with_reducible refine bset ?_ ?_; (focus (first | omega | (simp; done) | (simp; omega)))) | (with_reducible refine balloc ?_ ?_; (focus (first | omega | (simp; done) | (simp; omega)))) | (with_reducible refine bvia (unhide HB1) ?_ ?_; (focus (first | omega | (simp; done) | (simp; omega)))) | (with_reducible refine bvia (unhide HB2) ?_ ?_; (focus (first | omega | (simp; done) | (simp; omega)))) | (with_reducible refine bvia (unhide HB3) ?_ ?_; (focus (first | omega | (simp; done) | (simp; omega)))) | (with_reducible refine bvia (unhide HB4) ?_ ?_; (focus (first | omega | (simp; done) | (simp; omega)))) | (with_reducible refine bvia (unhide HB5) ?_ ?_; (focus (first | omega | (simp; done) | (simp; omega)))) | (with_reducible refine bvia (unhide HB6) ?_ ?_; (focus (first | omega | (simp; done) | (simp; omega)))))
end Go.Proofs.YtjfmiomopfjecabGreat

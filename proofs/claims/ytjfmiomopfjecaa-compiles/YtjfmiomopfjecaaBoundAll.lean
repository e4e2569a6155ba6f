/- slotsref.Bounds. -/
import Derived.Test.YtjfmiomopfjecaaBoundLive
namespace Go.Proofs.Ytjfmiomopfjecaa
open Go.RowKit

def opWant (s : ByteArray) (q k : Nat) : Bool := decide (q < k) && (decide (M.bz s 1 + q ∈ M.opsAt s k) && (M.liveB s k && !M.fixB s k))
def wnt (s : ByteArray) (q k : Nat) : Bool := decide (M.bz s 1 + q ∈ M.outL s) || M.anyTo (opWant s q) k
theorem wnt_start (s : ByteArray) (q : Nat) : wnt s q (q + 1) = decide (M.bz s 1 + q ∈ M.outL s) := by
  unfold wnt
  rw [M.anyTo_low, Bool.or_false]
  intro j hj
  unfold opWant
  rw [decide_eq_false (by omega)]
  rfl
theorem wnt_succ {s : ByteArray} {q k : Nat} (h : q < k) : wnt s q (k + 1) = (wnt s q k || (decide (M.bz s 1 + q ∈ M.opsAt s k) && (M.liveB s k && !M.fixB s k))) := by
  unfold wnt
  rw [M.anyTo_succ, Bool.or_assoc]
  congr 2
  unfold opWant
  rw [decide_eq_true h, Bool.true_and]
theorem wnt_end (s : ByteArray) (q : Nat) : wnt s q (M.bz s 2) = M.wantB s q := rfl
def pc (s : ByteArray) (i : Nat) : Bool := M.liveB s i && (M.fixB s i && M.wantB s i)
def po (s : ByteArray) (i : Nat) : Bool := M.liveB s i && !M.fixB s i

set_option maxHeartbeats 1600000 in
theorem refBounds_any (s : ByteArray) (n m : Nat) (w : World) (h : M.isImage s = true) (hn : M.bz s 1 = n) (hm : M.bz s 2 = m) :
    Calls Try.prog 59 #[.string s] w fun e w' => e = .returned (.tuple #[.int .i64 (M.cntP (pc s) m), .int .i64 (M.cntP (po s) m)]) ∧ Below w.heap.size w w' := by
  obtain ⟨h0, h1, h2, h3, h4, h5, h6⟩ := M.headOk_eq (M.image_headOk h)
  have hs : s.size ≤ maxLen := by unfold maxLen; omega
  rw [hn] at h1 h2
  rw [hm] at h3
  have HOPR := hide (fun (i v : Nat) (k u : Int) w (hi : i < m) (hk : k = i) (hu : u = v) (hv : v ≤ 1000) => refOperand_any s i v k u w h (by rw [hm]; exact hi) hk hu hv)
  have HOUT := hide (fun (v : Nat) (u : Int) w (hu : u = v) => refOutput_any s v u w h hu)
  have HFIX := hide (fun w => refFixed_any s n m w h hn hm)
  have HLIV := hide (fun w => refLives_any s n m w h hn hm)
  have HN1 : Hid (∀ w, Calls Try.prog 42 #[.string s, .int .i64 1] w fun e w' => e = .returned (.int .i64 n) ∧ w = w') := by
    intro w; have := refNum_at s 1 1 w hs rfl (by omega); rw [hn] at this; exact this
  have HN2 : Hid (∀ w, Calls Try.prog 42 #[.string s, .int .i64 2] w fun e w' => e = .returned (.int .i64 m) ∧ w = w') := by
    intro w; have := refNum_at s 2 2 w hs rfl (by omega); rw [hm] at this; exact this
  have HST : Hid (∀ q, wnt s q (q + 1) = decide (n + q ∈ M.outL s)) := by rw [← hn]; exact wnt_start s
  have HSU : Hid (∀ q k, q < k → wnt s q (k + 1) = (wnt s q k || (decide (n + q ∈ M.opsAt s k) && (M.liveB s k && !M.fixB s k)))) := by rw [← hn]; exact fun q k hh => wnt_succ hh
  have HEN : Hid (∀ q, wnt s q m = M.wantB s q) := by rw [← hm]; exact fun q => wnt_end s q
  clear h h0 h4 h5 h6 hn hm
  go_enter Try.func59, Try.ntmps59
  go_wp2_with fail
  refine (unhide HN1 _).mono ?_
  rintro e w' ⟨rfl, rfl⟩
  go_wp2_with fail
  refine (unhide HN2 _).mono ?_
  rintro e w' ⟨rfl, rfl⟩
  go_wp2_with fail
  refine (unhide HFIX _).mono ?_
  rintro e w1 ⟨vf, rfl, hf1, hb1⟩
  have z1 := hb1.size
  have HB1 := hide hb1
  have HF1 := hide hf1
  clear hb1 hf1
  go_wp2_with fail
  refine (unhide HLIV _).mono ?_
  rintro e w2 ⟨vl, rfl, hl2, hb2⟩
  have HB2 := hide ((unhide HB1).trans (hb2.mono z1))
  obtain ⟨af, capf, rfl, hf1, hf2, hfx⟩ := ((unhide HF1).mono hb2).shape
  obtain ⟨al, capl, rfl, hl3, hl4, hlx⟩ := hl2.shape
  have HFX := hide hfx
  have HLX := hide hlx
  unfold maxLen at hf2 hl4
  clear hb2 hl2 hfx hlx HF1 HB1 z1
  go_wp2_with fail
  go_loop [8, 9, 10] (fun a b i => ∃ k x y : Nat, k ≤ m ∧ i = .int .i64 k ∧ a = .int .i64 x ∧ b = .int .i64 y ∧ Hid (M.cntP (pc s) k = x) ∧ Hid (M.cntP (po s) k = y) ∧ x ≤ k ∧ y ≤ k) (fun _ _ i => m - (intOf i).toNat)
  case atStart => exact ⟨0, 0, 0, by omega, rfl, rfl, rfl, rfl, rfl, by omega, by omega⟩
  case round =>
    obtain ⟨k, x, y, hk, rfl, rfl, rfl, hx, hy, hxk, hyk⟩ := hrel
    by_cases hlt : k < m
    · obtain ⟨gf, rfl, hgf, hfc⟩ := unhide HFX (by omega)
      obtain ⟨gl, rfl, hgl, hlc⟩ := unhide HLX (by omega)
      have HCF : Hid (∀ j, j < m → w2.cell? ⟨gf, j, none⟩ = some (.bool (M.fixB s j))) := fun j hj => hfc j _ (bl_at hj)
      have HCL : Hid (∀ j, j < m → w2.cell? ⟨gl, j, none⟩ = some (.bool (M.liveB s j))) := fun j hj => hlc j _ (bl_at hj)
      have cf := HCF.out k hlt
      have cl := HCL.out k hlt
      have HC1 : Hid (M.cntP (pc s) (k + 1) = if (M.liveB s k && (M.fixB s k && M.wantB s k)) = true then x + 1 else x) := by rw [M.cntP, hx.out]; rfl
      have HC2 : Hid (M.cntP (po s) (k + 1) = if (M.liveB s k && !M.fixB s k) = true then y + 1 else y) := by rw [M.cntP, hy.out]; rfl
      clear hfc hlc hx hy
      cases hlv : M.liveB s k
      · rw [hlv] at cl
        have H1 : Hid (M.cntP (pc s) (k + 1) = x) := by rw [HC1.out, hlv]; rfl
        have H2 : Hid (M.cntP (po s) (k + 1) = y) := by rw [HC2.out, hlv]; rfl
        clear hlv HC1 HC2
        go_wp2
        go_round
        case rel => exact ⟨k + 1, x, y, by omega, by go_num, rfl, rfl, H1, H2, by omega, by omega⟩
        case measure => simp [intOf]; omega
      · rw [hlv] at cl
        cases hfx : M.fixB s k
        · rw [hfx] at cf
          have H1 : Hid (M.cntP (pc s) (k + 1) = x) := by rw [HC1.out, hlv, hfx]; rfl
          have H2 : Hid (M.cntP (po s) (k + 1) = y + 1) := by rw [HC2.out, hlv, hfx]; rfl
          clear hlv hfx HC1 HC2
          go_wp2
          go_round
          case rel => exact ⟨k + 1, x, y + 1, by omega, by go_num, rfl, by go_num, H1, H2, by omega, by omega⟩
          case measure => simp [intOf]; omega
        · rw [hfx] at cf
          have H1 : Hid (M.cntP (pc s) (k + 1) = if M.wantB s k = true then x + 1 else x) := by rw [HC1.out, hlv, hfx]; rfl
          have H2 : Hid (M.cntP (po s) (k + 1) = y) := by rw [HC2.out, hlv, hfx]; rfl
          have HST1 := hide (HST.out k)
          have HEN1 := hide (HEN.out k)
          clear hlv hfx HC1 HC2
          go_wp2_with fail
          refine (unhide HOUT (n + k) _ _ (by omega)).mono ?_
          rintro e w' ⟨rfl, rfl⟩
          rw [← HST1.out]
          go_wp2_with fail
          go_loop [11, 12] (fun a i => ∃ j : Nat, k + 1 ≤ j ∧ j ≤ m ∧ i = .int .i64 j ∧ a = .bool (wnt s k j)) (fun _ i => m - (intOf i).toNat)
          case atStart => exact ⟨k + 1, Nat.le_refl _, by omega, by go_num, rfl⟩
          case round =>
            obtain ⟨j, hj0, hj, rfl, rfl⟩ := hrel
            by_cases hjm : j < m
            · have df := HCF.out j hjm
              have dl := HCL.out j hjm
              have HS1 := hide (HSU.out k j (by omega))
              clear cf cl
              go_wp2_with fail
              refine (unhide HOPR j (n + k) _ _ _ hjm rfl (by omega) (by omega)).mono ?_
              rintro e w' ⟨rfl, rfl⟩
              generalize wnt s k j = b0 at *
              generalize decide (n + k ∈ M.opsAt s j) = b1 at *
              generalize M.liveB s j = b2 at *
              generalize M.fixB s j = b3 at *
              cases b0 <;> cases b1 <;> cases b2 <;> cases b3
              all_goals
                have HS2 := hide HS1.out
                simp only [Bool.or_true, Bool.or_false, Bool.and_true, Bool.and_false, Bool.not_true, Bool.not_false] at HS2
                clear HS1
                go_wp2
                go_round
                case rel => exact ⟨j + 1, by omega, by omega, by go_num, by rw [HS2.out]⟩
                case measure => simp [intOf]; omega
            · have hje : m = j := by omega
              subst hje
              rw [HEN1.out]
              cases hw : M.wantB s k
              · have H3 : Hid (M.cntP (pc s) (k + 1) = x) := by rw [H1.out, hw]; rfl
                clear hw H1
                go_wp2
                go_round
                case rel => exact ⟨k + 1, x, y, by omega, by go_num, rfl, rfl, H3, H2, by omega, by omega⟩
                case measure => simp [intOf]; omega
              · have H3 : Hid (M.cntP (pc s) (k + 1) = x + 1) := by rw [H1.out, hw]; rfl
                clear hw H1
                go_wp2
                go_round
                case rel => exact ⟨k + 1, x + 1, y, by omega, by go_num, by go_num, rfl, H3, H2, by omega, by omega⟩
                case measure => simp [intOf]; omega
    · have hkm : m = k := by omega
      subst hkm
      go_wp2
      go_ret2
      exact ⟨ret_pair (by rw [hx.out]) (by rw [hy.out]), unhide HB2⟩
end Go.Proofs.Ytjfmiomopfjecaa

/- The document's Image, Check and Eval. -/
import Derived.Test.YtjfmiomopfjecaaNetFits
namespace Go.Proofs.Ytjfmiomopfjecaa
open Go.RowKit

theorem head_ref {s : ByteArray} (h : M.headOk s = false) :
    ¬ (refNum s 0 = 77 ∧ 1 ≤ refNum s 1 ∧ refNum s 1 ≤ 4 ∧ 0 ≤ refNum s 2 ∧ refNum s 2 ≤ 24 ∧ 1 ≤ refNum s 3 ∧ refNum s 3 ≤ 4 ∧ (s.size : Int) = 4 + 3 * refNum s 2 + refNum s 3) := by
  intro ⟨h0, h1, h2, h3, h4, h5, h6, h7⟩
  have k3 : 3 < s.size := by
    by_cases e : 3 < s.size
    · exact e
    · have : refNum s 3 = -1 := if_neg e
      omega
  rw [refNum_in (by omega)] at h0
  rw [refNum_in (by omega)] at h1 h2
  rw [refNum_in (by omega)] at h3 h4
  rw [refNum_in (by omega)] at h5 h6
  rw [refNum_in (by omega), refNum_in (by omega)] at h7
  exact M.headOk_no h (by omega)

theorem refImage_no (s : ByteArray) (w : World) (hs : s.size ≤ maxLen) (h : M.headOk s = false) :
    Calls Try.prog 41 #[.string s] w fun e w' => e = .returned (.bool false) ∧ w = w' := by
  have hn := head_ref h
  have b0 := refNum_bd s 0
  have b1 := refNum_bd s 1
  have b2 := refNum_bd s 2
  have b3 := refNum_bd s 3
  have hs' := hs
  unfold maxLen at hs'
  go_enter Try.func41, Try.ntmps41
  go_wp2_with fail
  refine (refNumber_any s 1 _ hs (by omega)).mono ?_
  rintro e w' ⟨rfl, rfl⟩
  rw [show (1 : Int).toNat = 1 from rfl]
  generalize refNum s 1 = n at *
  go_wp2_with fail
  refine (refNumber_any s 2 _ hs (by omega)).mono ?_
  rintro e w' ⟨rfl, rfl⟩
  rw [show (2 : Int).toNat = 2 from rfl]
  generalize refNum s 2 = m at *
  go_wp2_with fail
  refine (refNumber_any s 3 _ hs (by omega)).mono ?_
  rintro e w' ⟨rfl, rfl⟩
  rw [show (3 : Int).toNat = 3 from rfl]
  generalize refNum s 3 = k at *
  go_wp2_with fail
  refine (refNumber_any s 0 _ hs (by omega)).mono ?_
  rintro e w' ⟨rfl, rfl⟩
  rw [show (0 : Int).toNat = 0 from rfl]
  generalize refNum s 0 = z at *
  have HN := hide hn
  by_cases c0 : z = 77
  · subst c0
    by_cases c1 : n < 1
    · go_wp2
      go_ret
      exact ⟨rfl, rfl⟩
    · by_cases c2 : 4 < n
      · go_wp2
        go_ret
        exact ⟨rfl, rfl⟩
      · by_cases c3 : m < 0
        · go_wp2
          go_ret
          exact ⟨rfl, rfl⟩
        · by_cases c4 : 24 < m
          · go_wp2
            go_ret
            exact ⟨rfl, rfl⟩
          · by_cases c5 : k < 1
            · go_wp2
              go_ret
              exact ⟨rfl, rfl⟩
            · by_cases c6 : 4 < k
              · go_wp2
                go_ret
                exact ⟨rfl, rfl⟩
              · have c7 : ((s.size : Int) != 4 + 3 * m + k) = true := by rw [bne_iff_ne]; omega
                clear hn
                go_wp2
                go_ret
                exact ⟨rfl, rfl⟩
  · have c0' : (z != 77) = true := by rw [bne_iff_ne]; exact c0
    clear hn
    go_wp2
    go_ret
    exact ⟨rfl, rfl⟩

theorem image_false1 {s : ByteArray} {k : Nat} (hk : k < M.bz s 2) (h : M.okOp (M.bz s (4 + 3 * k)) (M.bz s (5 + 3 * k)) (M.bz s (6 + 3 * k)) (M.bz s 1 + k) = false) : M.isImage s = false := by
  unfold M.isImage
  rw [show M.nodesOk s (M.bz s 2) = false from M.all_range_false (k := k) h hk]
  simp
theorem image_false2 {s : ByteArray} {k : Nat} (hk : k < M.bz s 3) (h : ¬ M.bz s (4 + 3 * M.bz s 2 + k) < M.bz s 1 + M.bz s 2) : M.isImage s = false := by
  unfold M.isImage
  rw [show M.outsOk s (M.bz s 3) = false from M.all_range_false (k := k) (by simpa using h) hk]
  simp
theorem nodes_next {s : ByteArray} {k : Nat} (h0 : M.nodesOk s k = true) (h : M.okOp (M.bz s (4 + 3 * k)) (M.bz s (5 + 3 * k)) (M.bz s (6 + 3 * k)) (M.bz s 1 + k) = true) : M.nodesOk s (k + 1) = true := by
  unfold M.nodesOk at *
  rw [M.all_range_succ, h0]; simpa using h
theorem outs_next {s : ByteArray} {k : Nat} (h0 : M.outsOk s k = true) (h : M.bz s (4 + 3 * M.bz s 2 + k) < M.bz s 1 + M.bz s 2) : M.outsOk s (k + 1) = true := by
  unfold M.outsOk at *
  rw [M.all_range_succ, h0]; simpa using h

set_option maxHeartbeats 800000 in
theorem refImage_yes (s : ByteArray) (w : World) (hs : s.size ≤ maxLen) (h : M.headOk s = true) :
    Calls Try.prog 41 #[.string s] w fun e w' => e = .returned (.bool (M.isImage s)) ∧ w = w' := by
  obtain ⟨h0, h1, h2, h3, h4, h5, h6⟩ := M.headOk_eq h
  have HH := hide h
  have HI : Hid (∀ b, M.isImage s = b → Ending.returned (.bool b) = .returned (.bool (M.isImage s))) := fun b e => by rw [e]
  have HF1 : Hid (∀ k, k < M.bz s 2 → M.okOp (M.bz s (4 + 3 * k)) (M.bz s (5 + 3 * k)) (M.bz s (6 + 3 * k)) (M.bz s 1 + k) = false → M.isImage s = false) := fun k hk e => image_false1 hk e
  have HF2 : Hid (∀ k, k < M.bz s 3 → ¬ M.bz s (4 + 3 * M.bz s 2 + k) < M.bz s 1 + M.bz s 2 → M.isImage s = false) := fun k hk e => image_false2 hk e
  have HN : Hid (∀ k, M.nodesOk s k = true → M.okOp (M.bz s (4 + 3 * k)) (M.bz s (5 + 3 * k)) (M.bz s (6 + 3 * k)) (M.bz s 1 + k) = true → M.nodesOk s (k + 1) = true) := fun k a b => nodes_next a b
  have HO : Hid (∀ k, M.outsOk s k = true → M.bz s (4 + 3 * M.bz s 2 + k) < M.bz s 1 + M.bz s 2 → M.outsOk s (k + 1) = true) := fun k a b => outs_next a b
  have HT : Hid (M.nodesOk s (M.bz s 2) = true → M.outsOk s (M.bz s 3) = true → M.isImage s = true) := fun a b => by unfold M.isImage; rw [HH.out, a, b]; rfl
  have H0 := hide h0
  have H6 := hide h6
  clear h
  go_enter Try.func41, Try.ntmps41
  clear h0
  go_wp2_with fail
  refine (refNumber_in s 1 _ hs (by omega) (by omega)).mono ?_
  rintro e w' ⟨rfl, rfl⟩
  rw [show (1 : Int).toNat = 1 from rfl]
  go_wp2_with fail
  refine (refNumber_in s 2 _ hs (by omega) (by omega)).mono ?_
  rintro e w' ⟨rfl, rfl⟩
  rw [show (2 : Int).toNat = 2 from rfl]
  go_wp2_with fail
  refine (refNumber_in s 3 _ hs (by omega) (by omega)).mono ?_
  rintro e w' ⟨rfl, rfl⟩
  rw [show (3 : Int).toNat = 3 from rfl]
  go_wp2_with fail
  refine (refNumber_in s 0 _ hs (by omega) (by omega)).mono ?_
  rintro e w' ⟨rfl, rfl⟩
  rw [show (0 : Int).toNat = 0 from rfl, H0.out]
  generalize hn : M.bz s 1 = n at *
  generalize hm : M.bz s 2 = m at *
  generalize hk : M.bz s 3 = c at *
  have Hn := hide hn
  have Hm := hide hm
  have Hk := hide hk
  clear hn hm hk
  have hsz : ((s.size : Int) != 4 + 3 * (m : Int) + (c : Int)) = false := by rw [bne_eq_false_iff_eq]; omega
  have hlen : s.size ≤ 80 := by omega
  have hlo : 4 + 3 * m + c ≤ s.size := by omega
  have hhi : s.size ≤ 4 + 3 * m + c := by omega
  clear h6
  go_wp2_with fail
  clear hsz
  go_loop [6] (fun i => ∃ k : Nat, k ≤ m ∧ i = .int .i64 k ∧ Hid (M.nodesOk s k = true)) (fun i => m - (intOf i).toNat)
  case atStart => exact ⟨0, by omega, rfl, rfl⟩
  case round =>
    obtain ⟨k, hk, rfl, hnod⟩ := hrel
    by_cases hlt : k < m
    · have b1 := M.bz_lt s (4 + 3 * k)
      have b2 := M.bz_lt s (5 + 3 * k)
      have b3 := M.bz_lt s (6 + 3 * k)
      go_wp2_with fail
      refine (refNumber_in s _ _ hs (by omega) (by omega)).mono ?_
      rintro e w' ⟨rfl, rfl⟩
      rw [show (4 + 3 * (k : Int)).toNat = 4 + 3 * k from by omega]
      go_wp2_with fail
      refine (refNumber_in s _ _ hs (by omega) (by omega)).mono ?_
      rintro e w' ⟨rfl, rfl⟩
      rw [show (5 + 3 * (k : Int)).toNat = 5 + 3 * k from by omega]
      go_wp2_with fail
      refine (refNumber_in s _ _ hs (by omega) (by omega)).mono ?_
      rintro e w' ⟨rfl, rfl⟩
      rw [show (6 + 3 * (k : Int)).toNat = 6 + 3 * k from by omega]
      go_wp2_with fail
      rw [show ((n : Int) + (k : Int)) = ((n + k : Nat) : Int) from by omega]
      refine (refAllowed_any _ _ _ _ _ b1 b2 b3 (by omega)).mono ?_
      rintro e w' ⟨rfl, rfl⟩
      cases hok : M.okOp (M.bz s (4 + 3 * k)) (M.bz s (5 + 3 * k)) (M.bz s (6 + 3 * k)) (n + k)
      · have HR := hide (HI.out false (HF1.out k hlt hok))
        clear hok
        go_wp2
        go_ret
        exact ⟨HR.out, rfl⟩
      · have HR := hide (HN.out k hnod.out hok)
        clear hok
        go_wp2
        go_round
        case rel => exact ⟨k + 1, by omega, by go_num, HR⟩
        case measure => simp [intOf]; omega
    · have : k = m := by omega
      subst this
      clear hlt
      go_wp2_with fail
      go_loop [8] (fun i => ∃ j : Nat, j ≤ c ∧ i = .int .i64 (4 + 3 * k + j : Nat) ∧ Hid (M.outsOk s j = true)) (fun i => s.size - (intOf i).toNat)
      case atStart => exact ⟨0, by omega, by go_num, rfl⟩
      case round =>
        obtain ⟨j, hj, rfl, hout⟩ := hrel
        by_cases hlt : j < c
        · have b1 := M.bz_lt s (4 + 3 * k + j)
          go_wp2_with fail
          refine (refNumber_in s _ _ hs (by omega) (by omega)).mono ?_
          rintro e w' ⟨rfl, rfl⟩
          rw [show (4 + 3 * (k : Int) + (j : Int)).toNat = 4 + 3 * k + j from by omega]
          by_cases hle : M.bz s (4 + 3 * k + j) < n + k
          · have HR := hide (HO.out j hout.out hle)
            generalize M.bz s (4 + 3 * k + j) = x at *
            go_wp2
            go_round
            case rel => exact ⟨j + 1, by omega, by go_num, HR⟩
            case measure => simp [intOf]; omega
          · have HR := hide (HI.out false (HF2.out j hlt hle))
            generalize M.bz s (4 + 3 * k + j) = x at *
            go_wp2
            go_ret
            exact ⟨HR.out, rfl⟩
        · have : j = c := by omega
          subst this
          have HR := hide (HI.out true (HT.out hnod.out hout.out))
          go_wp2
          go_ret
          exact ⟨HR.out, rfl⟩
theorem refImage_any (s : ByteArray) (w : World) (hs : s.size ≤ maxLen) :
    Calls Try.prog 41 #[.string s] w fun e w' => e = .returned (.bool (M.isImage s)) ∧ w = w' := by
  cases h : M.headOk s
  · have e : M.isImage s = false := by unfold M.isImage; rw [h]; rfl
    rw [e]
    exact refImage_no s w hs h
  · exact refImage_yes s w hs h
end Go.Proofs.Ytjfmiomopfjecaa

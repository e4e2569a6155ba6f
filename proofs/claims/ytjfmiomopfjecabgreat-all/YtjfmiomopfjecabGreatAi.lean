/- Texts laid together: LawPlays, LawOwn. -/
import Derived.Test.YtjfmiomopfjecabGreatAh
import Derived.Deep.RegionHeld3
import Derived.ProofKit
import Derived.OpenShut
import Derived.ShutString
import Derived.JoinedCond
import Derived.Lib.SmallJoins
import Derived.ChangeSlices
import Derived.Carry
import Derived.Test.YtjfmiomopfjecabGreatAa
import Derived.Test.YtjfmiomopfjecabGreatAb
import Derived.Test.YtjfmiomopfjecabGreatAc
import Derived.Test.YtjfmiomopfjecabGreatAd
import Derived.Test.YtjfmiomopfjecabGreatAe
import Derived.Test.YtjfmiomopfjecabGreatAf
import Derived.Test.YtjfmiomopfjecabGreatAg
/- A script is played. -/
namespace Go.Proofs.YtjfmiomopfjecabGreat
open Go.RowKit Go.Lib

section
variable {W : World}
set_option maxRecDepth 10000 in
set_option maxHeartbeats 8000000 in
theorem plays_any {v : Value} {l : List OpS} (hv : HoldsOps W v l.length (opsC l)) (hl : ∀ x ∈ l, OpOk x) (hlen : l.length ≤ 1999999999999) (whole : Bool) :
    Calls Tryz.prog 31 #[v, .bool whole] W fun e w' => e = .returned (.bool true) ∧ Below W.heap.size W w' := by
  have HV := hide hv
  have hsh : ∃ p cap, v = .slice p l.length cap := by
    rcases hv with ⟨p, cap, rfl, h⟩ | ⟨g, off, cap, rfl, _⟩
    · exact ⟨p, cap, by rw [h]⟩
    · exact ⟨_, _, rfl⟩
  clear hv
  obtain ⟨p, cap, rfl⟩ := hsh
  have HL := hide hl
  clear hl
  go_enter Tryz.func31, Tryz.ntmps31
  go_wp2_with fail
  refine (begins_any _).mono ?_
  rintro e w1 ⟨rfl, hb1⟩
  have HB1 := hide hb1
  clear hb1
  go_wp2_with fail
  go_loopw [6, 7] (fun u i wr => ∃ (k : Nat) (L : List (Nat × Nat)) (D : Nat → M.Dev) (ao : Option Addr) (ca : Nat), k ≤ l.length ∧ i = .int .i64 k ∧ L.length ≤ k ∧ u = .slice ao L.length ca ∧ PlayAt W wr (.slice ao L.length ca) L D) (fun _ i _ => l.length - (intOf i).toNat)
  case atStart => exact ⟨0, [], fun _ => ⟨⟨#[]⟩, fun _ => 0, false, 0, 0, 0⟩, none, 0, by omega, rfl, Nat.le_refl _, rfl, ⟨World.ownsRow_nil _ _ _ _, ⟨fun i h => absurd h (by simp), fun i j h => absurd h (by simp)⟩, fun i h => absurd h (by simp), unhide HB1⟩⟩
  case round =>
    clear HB1
    obtain ⟨k, L, D, ao, ca, hk, rfl, hLk, rfl, hpl⟩ := hrel
    have hv3 := (unhide HV).mono hpl.low
    have HPL := hide hpl
    have hsz := hpl.low.size
    clear hpl
    by_cases hlt : k < l.length
    · rcases hv3 with ⟨_, _, h, hn⟩ | ⟨g', off, cap', h, hg', h1, h2, h3⟩
      · exact absurd hlt (by omega)
      · injection h with hp _ hcap
        subst hp hcap
        have hat := fun j hj u hu => h3 _ u ((opsC_at l k hlt j hj).trans hu)
        have hok := unhide HL l[k] (List.getElem_mem hlt)
        generalize l[k] = x at *
        obtain ⟨kd, dv, ek, en, et, ec, eo, ky, im, vs, se⟩ := x
        have c0 := hat 0 (by omega) _ rfl
        have c1 := hat 1 (by omega) _ rfl
        have c2 := hat 2 (by omega) _ rfl
        have c3 := hat 3 (by omega) _ rfl
        have c4 := hat 4 (by omega) _ rfl
        have c5 := hat 5 (by omega) _ rfl
        have c6 := hat 6 (by omega) _ rfl
        have c7 := hat 7 (by omega) _ rfl
        have c8 := hat 8 (by omega) _ rfl
        have c9 := hat 9 (by omega) _ rfl
        have c10 := hat 10 (by omega) _ rfl
        rw [show off + (11 * k + 0) = off + k * 11 from by omega] at c0
        rw [show off + (11 * k + 1) = off + k * 11 + 1 from by omega] at c1
        rw [show off + (11 * k + 2) = off + k * 11 + 2 from by omega] at c2
        rw [show off + (11 * k + 3) = off + k * 11 + 3 from by omega] at c3
        rw [show off + (11 * k + 4) = off + k * 11 + 4 from by omega] at c4
        rw [show off + (11 * k + 5) = off + k * 11 + 5 from by omega] at c5
        rw [show off + (11 * k + 6) = off + k * 11 + 6 from by omega] at c6
        rw [show off + (11 * k + 7) = off + k * 11 + 7 from by omega] at c7
        rw [show off + (11 * k + 8) = off + k * 11 + 8 from by omega] at c8
        rw [show off + (11 * k + 9) = off + k * 11 + 9 from by omega] at c9
        rw [show off + (11 * k + 10) = off + k * 11 + 10 from by omega] at c10
        clear h3 hat
        have hltI : (k : Int) < (l.length : Int) := by omega
        have hk0 : (0 : Int) ≤ (k : Int) := by omega
        obtain ⟨⟨hd0, hd1⟩, hetl, hkyl, himl⟩ := hok
        dsimp only at hd0 hd1 hetl hkyl himl
        unfold maxLen at h2
        have HPB := hide (fun (X : World) (b g : Nat) (d : M.Dev) (hX : Pair X b g d) => looks_any hX)
        clear HL hg'
        generalize l.length = ln at *
        by_cases k1 : kd = 1
        · subst k1
          by_cases hnn : newNum ky im vs = 0
          · obtain ⟨hq1, hq2, hq3, hq4⟩ := newNum_ok hnn
            obtain ⟨vn, rfl⟩ := Int.eq_ofNat_of_zero_le hq3
            have HMO := hide (fun X => made_ok ky im vn X hq1 hq2 (by omega))
            clear hnn
            go_wp2_with fail
            refine (unhide HMO _).mono ?_
            rintro e w1 ⟨b, g, rfl, hp1, hbb, hgg, hb1⟩
            obtain ⟨kO, kP, ls, hb⟩ := blk2 hb1
            obtain ⟨hxO, hfO⟩ := block_facts kO
            obtain ⟨hxP, hfP⟩ := block_facts kP
            have HB := hide hb
            have hgb1 : wr.heap.size + 1 < b := by simp at hbb; omega
            have hgg1 : wr.heap.size + 1 < g := by simp at hgg; omega
            have KO1 := hide kO
            have hsw := hb.size
            have HBX : Hid (Below wr.heap.size wr ((w1.setCell ⟨wr.heap.size + 1, 0, none⟩ (.pointer (some ⟨b, 0, none⟩))).setCell ⟨wr.heap.size + 1, 1, none⟩ (.pointer (some ⟨g, 0, none⟩)))) := by
              show Below wr.heap.size wr _
              repeat (first | with_reducible exact unhide HB | with_reducible exact Below.refl _ _ | with_reducible refine bdrew ?_ | (with_reducible refine brow ?_ ?_; (focus (first | omega | (simp; done) | (simp; omega)))) | (with_reducible refine bset ?_ ?_; (focus (first | omega | (simp; done) | (simp; omega)))) | (with_reducible refine balloc ?_ ?_; (focus (first | omega | (simp; done) | (simp; omega)))) | (with_reducible refine bvia (unhide HB1) ?_ ?_; (focus (first | omega | (simp; done) | (simp; omega)))) | (with_reducible refine bvia (unhide HB2) ?_ ?_; (focus (first | omega | (simp; done) | (simp; omega)))) | (with_reducible refine bvia (unhide HB3) ?_ ?_; (focus (first | omega | (simp; done) | (simp; omega)))) | (with_reducible refine bvia (unhide HB4) ?_ ?_; (focus (first | omega | (simp; done) | (simp; omega)))) | (with_reducible refine bvia (unhide HB5) ?_ ?_; (focus (first | omega | (simp; done) | (simp; omega)))) | (with_reducible refine bvia (unhide HB6) ?_ ?_; (focus (first | omega | (simp; done) | (simp; omega)))))
            have KOX : Hid (((w1.setCell ⟨wr.heap.size + 1, 0, none⟩ (.pointer (some ⟨b, 0, none⟩))).setCell ⟨wr.heap.size + 1, 1, none⟩ (.pointer (some ⟨g, 0, none⟩))).heap[wr.heap.size]? = some (.cells #[.int .i64 1, .int .i64 dv, .int .i64 ek, .int .i64 en, .string et, .int .i64 ec, .int .i64 eo, .string ky, .string im, .int .i64 vn, .bool se] 88 (0, 0))) := by
              show _ = _
              repeat (first | with_reducible exact unhide KO1 | (with_reducible refine lblk ?_; (focus (first | rfl | (simp; done)))) | with_reducible refine ablk ?_ | with_reducible refine drew_block ?_ | (with_reducible refine sblk ?_ ?_; (focus (first | omega | (simp; done) | (simp; omega)))))
            have HPX : Hid (Pair ((w1.setCell ⟨wr.heap.size + 1, 0, none⟩ (.pointer (some ⟨b, 0, none⟩))).setCell ⟨wr.heap.size + 1, 1, none⟩ (.pointer (some ⟨g, 0, none⟩))) b g (M.newD ky im vn)) := by
              refine ⟨?_, ?_, hp1.inv, hp1.tz, hp1.key⟩
              · obtain ⟨x, y, z, hd, hm⟩ := hp1.dev
                refine ⟨x, y, z, ?_, hm⟩
                unfold DevAt at hd ⊢
                have KD := hide hd
                repeat (first | with_reducible exact unhide KD | (with_reducible refine lblk ?_; (focus (first | rfl | (simp; done)))) | with_reducible refine ablk ?_ | with_reducible refine drew_block ?_ | (with_reducible refine sblk ?_ ?_; (focus (first | omega | (simp; done) | (simp; omega)))))
              · have hr := hp1.ref
                unfold RefAt at hr ⊢
                have KR := hide hr
                repeat (first | with_reducible exact unhide KR | (with_reducible refine lblk ?_; (focus (first | rfl | (simp; done)))) | with_reducible refine ablk ?_ | with_reducible refine drew_block ?_ | (with_reducible refine sblk ?_ ?_; (focus (first | omega | (simp; done) | (simp; omega)))))
            have HPW := hide ((unhide HPL).kept (unhide HBX))
            have hbX : W.heap.size ≤ ((w1.setCell ⟨wr.heap.size + 1, 0, none⟩ (.pointer (some ⟨b, 0, none⟩))).setCell ⟨wr.heap.size + 1, 1, none⟩ (.pointer (some ⟨g, 0, none⟩))).heap.size := (unhide HPW).low.size
            have hsX : Hid (w1.heap.size = ((w1.setCell ⟨wr.heap.size + 1, 0, none⟩ (.pointer (some ⟨b, 0, none⟩))).setCell ⟨wr.heap.size + 1, 1, none⟩ (.pointer (some ⟨g, 0, none⟩))).heap.size) := by
              show _ = _
              simp
            clear hb hb1 kO kP hp1 HMO c0 c1 c2 c3 c4 c5 c6 c7 c8 c9 c10 hbb hgg KO1
            go_wp2_with (at_builtin; (refine append_pair _ rfl (.tmp 48) (.tmp 50) rfl W.heap.size _ L.length (pairC L) b g w1.heap.size rfl rfl (unhide hsX) (unhide HPW).row (by omega) hbX ?_); intro v9 w9 hown9 hgr9; obtain ⟨L9, D9, ao9, ca9, hl9, rfl, hpl9, k9⟩ := (unhide HPL).adds (unhide HBX) (unhide HPX) (by omega) (by omega) hown9 hgr9 (Nat.le_refl _) (unhide KOX))
            have HP := hide hpl9
            have KO := hide k9
            clear hpl9 k9 hown9 hgr9 hbX hsX HPW HPX KOX HBX hxO hfO hxP hfP HB HPL
            have hLk9 : L9.length ≤ k + 1 := by omega
            go_wp2_with fail
            go_loopw [9, 14] (fun oki j wz => ∃ m : Nat, m ≤ L9.length ∧ oki = .bool true ∧ j = .int .i64 m ∧ Below w9.heap.size w9 wz) (fun _ j _ => L9.length - (intOf j).toNat)
            case atStart => exact ⟨0, by omega, rfl, rfl, Below.refl _ _⟩
            case round =>
              obtain ⟨m, hm, rfl, rfl, hbZ⟩ := hrel
              have HPZ := hide ((unhide HP).kept hbZ)
              obtain ⟨hxz, hfz⟩ := block_facts (kept_block hbZ (unhide KO))
              have HBZ := hide hbZ
              clear hbZ
              by_cases hm2 : m < L9.length
              · cases se
                · have hmI : (m : Int) < (L9.length : Int) := by omega
                  go_wp2
                  go_roundw
                  case rel => exact ⟨k + 1, L9, D9, ao9, ca9, by omega, by go_num, by omega, rfl, unhide HPZ⟩
                  case measure => simp [intOf]; omega
                · have hmI : (m : Int) < (L9.length : Int) := by omega
                  have hm0 : (0 : Int) ≤ (m : Int) := by omega
                  obtain ⟨gl, rfl, r0, r1⟩ := (unhide HPZ).cellsAt hm2
                  have HLO := hide (looks_any ((unhide HPZ).pairs.each m hm2))
                  generalize L9[m].1 = bm at *
                  generalize L9[m].2 = gm at *
                  go_wp2_with fail
                  refine (unhide HLO).mono ?_
                  rintro e w9 ⟨rfl, hb9⟩
                  have HB9 := hide ((unhide HBZ).trans (hb9.mono (unhide HBZ).size))
                  clear hb9 r0 r1 HLO hxz hfz
                  go_wp2
                  go_roundw
                  case rel => exact ⟨m + 1, by omega, rfl, by go_num, unhide HB9⟩
                  case measure => simp [intOf]; omega
              · have hmI : ¬ (m : Int) < (L9.length : Int) := by omega
                go_wp2
                go_roundw
                case rel => exact ⟨k + 1, L9, D9, ao9, ca9, by omega, by go_num, by omega, rfl, unhide HPZ⟩
                case measure => simp [intOf]; omega
          · have HMN := hide (fun X => made_no ky im vs X himl hnn)
            clear hnn
            go_wp2_with fail
            refine (unhide HMN _).mono ?_
            rintro e w1 ⟨rfl, hb1⟩
            obtain ⟨kO, kP, ls, hb⟩ := blk2 hb1
            obtain ⟨hxO, hfO⟩ := block_facts kO
            obtain ⟨hxP, hfP⟩ := block_facts kP
            have HB := hide hb
            have KO1 := hide kO
            have hsw := hb.size
            clear hb hb1 kO kP HMN c0 c1 c2 c3 c4 c5 c6 c7 c8 c9 c10
            go_wp2_with fail
            have HP : Hid (PlayAt W ((w1.setCell ⟨wr.heap.size + 1, 0, none⟩ (.pointer none)).setCell ⟨wr.heap.size + 1, 1, none⟩ (.pointer none)) (.slice ao L.length ca) L D) := (unhide HPL).kept (by
              repeat (first | with_reducible exact unhide HB | with_reducible exact Below.refl _ _ | with_reducible refine bdrew ?_ | (with_reducible refine brow ?_ ?_; (focus (first | omega | (simp; done) | (simp; omega)))) | (with_reducible refine bset ?_ ?_; (focus (first | omega | (simp; done) | (simp; omega)))) | (with_reducible refine balloc ?_ ?_; (focus (first | omega | (simp; done) | (simp; omega)))) | (with_reducible refine bvia (unhide HB1) ?_ ?_; (focus (first | omega | (simp; done) | (simp; omega)))) | (with_reducible refine bvia (unhide HB2) ?_ ?_; (focus (first | omega | (simp; done) | (simp; omega)))) | (with_reducible refine bvia (unhide HB3) ?_ ?_; (focus (first | omega | (simp; done) | (simp; omega)))) | (with_reducible refine bvia (unhide HB4) ?_ ?_; (focus (first | omega | (simp; done) | (simp; omega)))) | (with_reducible refine bvia (unhide HB5) ?_ ?_; (focus (first | omega | (simp; done) | (simp; omega)))) | (with_reducible refine bvia (unhide HB6) ?_ ?_; (focus (first | omega | (simp; done) | (simp; omega))))))
            have KO : Hid (((w1.setCell ⟨wr.heap.size + 1, 0, none⟩ (.pointer none)).setCell ⟨wr.heap.size + 1, 1, none⟩ (.pointer none)).heap[wr.heap.size]? = some (.cells #[.int .i64 1, .int .i64 dv, .int .i64 ek, .int .i64 en, .string et, .int .i64 ec, .int .i64 eo, .string ky, .string im, .int .i64 vs, .bool se] 88 (0, 0))) := by
              show _ = _
              repeat (first | with_reducible exact unhide KO1 | (with_reducible refine lblk ?_; (focus (first | rfl | (simp; done)))) | with_reducible refine ablk ?_ | with_reducible refine drew_block ?_ | (with_reducible refine sblk ?_ ?_; (focus (first | omega | (simp; done) | (simp; omega)))))
            clear HB KO1 hxO hfO hxP hfP HPL
            generalize ((w1.setCell ⟨wr.heap.size + 1, 0, none⟩ (.pointer none)).setCell ⟨wr.heap.size + 1, 1, none⟩ (.pointer none)) = Z at *
            go_loopw [9, 14] (fun oki j wz => ∃ m : Nat, m ≤ L.length ∧ oki = .bool true ∧ j = .int .i64 m ∧ Below Z.heap.size Z wz) (fun _ j _ => L.length - (intOf j).toNat)
            case atStart => exact ⟨0, by omega, rfl, rfl, Below.refl _ _⟩
            case round =>
              obtain ⟨m, hm, rfl, rfl, hbZ⟩ := hrel
              have HPZ := hide ((unhide HP).kept hbZ)
              obtain ⟨hxz, hfz⟩ := block_facts (kept_block hbZ (unhide KO))
              have HBZ := hide hbZ
              clear hbZ
              by_cases hm2 : m < L.length
              · cases se
                · have hmI : (m : Int) < (L.length : Int) := by omega
                  go_wp2
                  go_roundw
                  case rel => exact ⟨k + 1, L, D, ao, ca, by omega, by go_num, by omega, rfl, unhide HPZ⟩
                  case measure => simp [intOf]; omega
                · have hmI : (m : Int) < (L.length : Int) := by omega
                  have hm0 : (0 : Int) ≤ (m : Int) := by omega
                  obtain ⟨gl, rfl, r0, r1⟩ := (unhide HPZ).cellsAt hm2
                  have HLO := hide (looks_any ((unhide HPZ).pairs.each m hm2))
                  generalize L[m].1 = bm at *
                  generalize L[m].2 = gm at *
                  go_wp2_with fail
                  refine (unhide HLO).mono ?_
                  rintro e w9 ⟨rfl, hb9⟩
                  have HB9 := hide ((unhide HBZ).trans (hb9.mono (unhide HBZ).size))
                  clear hb9 r0 r1 HLO hxz hfz
                  go_wp2
                  go_roundw
                  case rel => exact ⟨m + 1, by omega, rfl, by go_num, unhide HB9⟩
                  case measure => simp [intOf]; omega
              · have hmI : ¬ (m : Int) < (L.length : Int) := by omega
                go_wp2
                go_roundw
                case rel => exact ⟨k + 1, L, D, ao, ca, by omega, by go_num, by omega, rfl, unhide HPZ⟩
                case measure => simp [intOf]; omega
        by_cases k2 : kd = 2
        · subst k2
          by_cases hL : 0 < L.length
          · have hLI : (0 : Int) < (L.length : Int) := by omega
            have hpk := M.pk_lt dv L.length (by omega)
            have HPK := hide (fun X => lawPick_any dv L.length X hd0 hd1 (by omega) (by omega))
            generalize M.pk dv L.length = pk at *
            go_wp2_with fail
            have HP := hide ((unhide HPL).kept ((Below.refl wr.heap.size wr).alloc (Nat.le_refl _) (.cells #[.int .i64 2, .int .i64 dv, .int .i64 ek, .int .i64 en, .string et, .int .i64 ec, .int .i64 eo, .string ky, .string im, .int .i64 vs, .bool se] 88)))
            have KO : Hid ((wr.alloc (.cells #[.int .i64 2, .int .i64 dv, .int .i64 ek, .int .i64 en, .string et, .int .i64 ec, .int .i64 eo, .string ky, .string im, .int .i64 vs, .bool se] 88)).heap[wr.heap.size]? = some (.cells #[.int .i64 2, .int .i64 dv, .int .i64 ek, .int .i64 en, .string et, .int .i64 ec, .int .i64 eo, .string ky, .string im, .int .i64 vs, .bool se] 88 (0, 0))) := last_block _ _ rfl
            clear c0 c1 c2 c3 c4 c5 c6 c7 c8 c9 c10
            generalize (wr.alloc (.cells #[.int .i64 2, .int .i64 dv, .int .i64 ek, .int .i64 en, .string et, .int .i64 ec, .int .i64 eo, .string ky, .string im, .int .i64 vs, .bool se] 88)) = Z at *
            obtain ⟨gl, rfl, r0, r1⟩ := (unhide HP).cellsAt hpk
            obtain ⟨hxo, hfo⟩ := block_facts (unhide KO)
            have hPR := (unhide HP).pairs.each pk hpk
            have hold := ((unhide HPL).pairs.each pk hpk).lt
            have HDN : Hid (Calls Tryz.prog 48 #[pairV L[pk].1 L[pk].2, .agg #[.int .i64 ek, .int .i64 en, .string et, .int .i64 ec, .int .i64 eo], .bool whole] Z.drew fun e w' => e = .returned (.bool true) ∧ (∃ D', PlayAt W w' (.slice (some ⟨gl, 0, none⟩) L.length ca) L D') ∧ w'.heap[wr.heap.size]? = some (.cells #[.int .i64 2, .int .i64 dv, .int .i64 ek, .int .i64 en, .string et, .int .i64 ec, .int .i64 eo, .string ky, .string im, .int .i64 vs, .bool se] 88 (0, 0)) ∧ w'.cell? ⟨wr.heap.size, 1, none⟩ = some (.int .i64 dv) ∧ w'.cell? ⟨wr.heap.size, 2, none⟩ = some (.int .i64 ek) ∧ w'.cell? ⟨wr.heap.size, 3, none⟩ = some (.int .i64 en) ∧ w'.cell? ⟨wr.heap.size, 4, none⟩ = some (.string et) ∧ w'.cell? ⟨wr.heap.size, 5, none⟩ = some (.int .i64 ec) ∧ w'.cell? ⟨wr.heap.size, 6, none⟩ = some (.int .i64 eo) ∧ w'.cell? ⟨gl, pk * 2, none⟩ = some (.pointer (some ⟨L[pk].1, 0, none⟩)) ∧ w'.cell? ⟨gl, pk * 2 + 1, none⟩ = some (.pointer (some ⟨L[pk].2, 0, none⟩))) :=
              (done_any (hPR.kept (Below.refl _ _).drew) ek en et ec eo hetl whole).mono fun e w' ⟨h1, ⟨d', hp'⟩, ho'⟩ => by
                have ho : Only (fun x => x = L[pk].1 ∨ x = L[pk].2) Z w' := (Only.of (Below.refl _ _).drew).trans ho'
                have hp9 := (unhide HP).did hpk hp' ho
                have k9 := (ho.block wr.heap.size (Array.getElem?_eq_some_iff.1 (unhide KO)).1 (by omega)).trans (unhide KO)
                obtain ⟨gl', ea, r0', r1'⟩ := hp9.cellsAt hpk
                obtain rfl : gl = gl' := by simpa using ea
                exact ⟨h1, ⟨_, hp9⟩, k9, cell_in k9 1, cell_in k9 2, cell_in k9 3, cell_in k9 4, cell_in k9 5, cell_in k9 6, r0', r1'⟩
            generalize L[pk].1 = bm at *
            generalize L[pk].2 = gm at *
            have hpI : (pk : Int) < (L.length : Int) := by omega
            have hp0 : (0 : Int) ≤ (pk : Int) := by omega
            clear hPR hold
            go_region_held3 (fun X => X.cell? ⟨wr.heap.size, 1, none⟩ = some (.int .i64 dv) ∧ X.cell? ⟨wr.heap.size, 2, none⟩ = some (.int .i64 ek) ∧ X.cell? ⟨wr.heap.size, 3, none⟩ = some (.int .i64 en) ∧ X.cell? ⟨wr.heap.size, 4, none⟩ = some (.string et) ∧ X.cell? ⟨wr.heap.size, 5, none⟩ = some (.int .i64 ec) ∧ X.cell? ⟨wr.heap.size, 6, none⟩ = some (.int .i64 eo) ∧ X.cell? ⟨gl, pk * 2, none⟩ = some (.pointer (some ⟨bm, 0, none⟩)) ∧ X.cell? ⟨gl, pk * 2 + 1, none⟩ = some (.pointer (some ⟨gm, 0, none⟩))) (first | with_reducible exact hS9 | go_keep) ((first | (go_at_call 49; with_reducible refine (unhide HPK _).mono ?_; rintro y wN ⟨rfl, rfl⟩) | (go_at_call 48; with_reducible refine (unhide HDN).mono ?_; rintro y w9 ⟨rfl, ⟨D9, hD9⟩, k9, hS9⟩)))
            have HP9 := hide hD9
            have K9 := hide k9
            clear hD9 k9 hS9 HDN HPK HP KO r0 r1 hxo hfo hpI hp0 hpk HPL
            have HP := HP9
            have KO := K9
            clear HP9 K9
            generalize (some (⟨gl, 0, none⟩ : Addr)) = ao at *
            go_wp2_with fail
            go_loopw [9, 14] (fun oki j wz => ∃ m : Nat, m ≤ L.length ∧ oki = .bool true ∧ j = .int .i64 m ∧ Below w9.heap.size w9 wz) (fun _ j _ => L.length - (intOf j).toNat)
            case atStart => exact ⟨0, by omega, rfl, rfl, Below.refl _ _⟩
            case round =>
              obtain ⟨m, hm, rfl, rfl, hbZ⟩ := hrel
              have HPZ := hide ((unhide HP).kept hbZ)
              obtain ⟨hxz, hfz⟩ := block_facts (kept_block hbZ (unhide KO))
              have HBZ := hide hbZ
              clear hbZ
              by_cases hm2 : m < L.length
              · cases se
                · have hmI : (m : Int) < (L.length : Int) := by omega
                  go_wp2
                  go_roundw
                  case rel => exact ⟨k + 1, L, D9, ao, ca, by omega, by go_num, by omega, rfl, unhide HPZ⟩
                  case measure => simp [intOf]; omega
                · have hmI : (m : Int) < (L.length : Int) := by omega
                  have hm0 : (0 : Int) ≤ (m : Int) := by omega
                  obtain ⟨gl, rfl, r0, r1⟩ := (unhide HPZ).cellsAt hm2
                  have HLO := hide (looks_any ((unhide HPZ).pairs.each m hm2))
                  generalize L[m].1 = bm at *
                  generalize L[m].2 = gm at *
                  go_wp2_with fail
                  refine (unhide HLO).mono ?_
                  rintro e w9 ⟨rfl, hb9⟩
                  have HB9 := hide ((unhide HBZ).trans (hb9.mono (unhide HBZ).size))
                  clear hb9 r0 r1 HLO hxz hfz
                  go_wp2
                  go_roundw
                  case rel => exact ⟨m + 1, by omega, rfl, by go_num, unhide HB9⟩
                  case measure => simp [intOf]; omega
              · have hmI : ¬ (m : Int) < (L.length : Int) := by omega
                go_wp2
                go_roundw
                case rel => exact ⟨k + 1, L, D9, ao, ca, by omega, by go_num, by omega, rfl, unhide HPZ⟩
                case measure => simp [intOf]; omega
          · have hL0 : ¬ (0 : Int) < (L.length : Int) := by omega
            go_wp2_with fail
            have HP := hide ((unhide HPL).kept ((Below.refl wr.heap.size wr).alloc (Nat.le_refl _) (.cells #[.int .i64 2, .int .i64 dv, .int .i64 ek, .int .i64 en, .string et, .int .i64 ec, .int .i64 eo, .string ky, .string im, .int .i64 vs, .bool se] 88)))
            have KO : Hid ((wr.alloc (.cells #[.int .i64 2, .int .i64 dv, .int .i64 ek, .int .i64 en, .string et, .int .i64 ec, .int .i64 eo, .string ky, .string im, .int .i64 vs, .bool se] 88)).heap[wr.heap.size]? = some (.cells #[.int .i64 2, .int .i64 dv, .int .i64 ek, .int .i64 en, .string et, .int .i64 ec, .int .i64 eo, .string ky, .string im, .int .i64 vs, .bool se] 88 (0, 0))) := last_block _ _ rfl
            clear c0 c1 c2 c3 c4 c5 c6 c7 c8 c9 c10
            generalize (wr.alloc (.cells #[.int .i64 2, .int .i64 dv, .int .i64 ek, .int .i64 en, .string et, .int .i64 ec, .int .i64 eo, .string ky, .string im, .int .i64 vs, .bool se] 88)) = Z at *
            go_loopw [9, 14] (fun oki j wz => ∃ m : Nat, m ≤ L.length ∧ oki = .bool true ∧ j = .int .i64 m ∧ Below Z.heap.size Z wz) (fun _ j _ => L.length - (intOf j).toNat)
            case atStart => exact ⟨0, by omega, rfl, rfl, Below.refl _ _⟩
            case round =>
              obtain ⟨m, hm, rfl, rfl, hbZ⟩ := hrel
              have HPZ := hide ((unhide HP).kept hbZ)
              obtain ⟨hxz, hfz⟩ := block_facts (kept_block hbZ (unhide KO))
              have HBZ := hide hbZ
              clear hbZ
              by_cases hm2 : m < L.length
              · exact absurd hm2 (by omega)
              · have hmI : ¬ (m : Int) < (L.length : Int) := by omega
                go_wp2
                go_roundw
                case rel => exact ⟨k + 1, L, D, ao, ca, by omega, by go_num, by omega, rfl, unhide HPZ⟩
                case measure => simp [intOf]; omega
        by_cases k3 : kd = 3
        · subst k3
          by_cases hL : 0 < L.length
          · have hLI : (0 : Int) < (L.length : Int) := by omega
            have hpk := M.pk_lt dv L.length (by omega)
            have HPK := hide (fun X => lawPick_any dv L.length X hd0 hd1 (by omega) (by omega))
            generalize M.pk dv L.length = pk at *
            go_wp2_with fail
            have HP := hide ((unhide HPL).kept ((Below.refl wr.heap.size wr).alloc (Nat.le_refl _) (.cells #[.int .i64 3, .int .i64 dv, .int .i64 ek, .int .i64 en, .string et, .int .i64 ec, .int .i64 eo, .string ky, .string im, .int .i64 vs, .bool se] 88)))
            have KO : Hid ((wr.alloc (.cells #[.int .i64 3, .int .i64 dv, .int .i64 ek, .int .i64 en, .string et, .int .i64 ec, .int .i64 eo, .string ky, .string im, .int .i64 vs, .bool se] 88)).heap[wr.heap.size]? = some (.cells #[.int .i64 3, .int .i64 dv, .int .i64 ek, .int .i64 en, .string et, .int .i64 ec, .int .i64 eo, .string ky, .string im, .int .i64 vs, .bool se] 88 (0, 0))) := last_block _ _ rfl
            clear c0 c1 c2 c3 c4 c5 c6 c7 c8 c9 c10
            generalize (wr.alloc (.cells #[.int .i64 3, .int .i64 dv, .int .i64 ek, .int .i64 en, .string et, .int .i64 ec, .int .i64 eo, .string ky, .string im, .int .i64 vs, .bool se] 88)) = Z at *
            obtain ⟨gl, rfl, r0, r1⟩ := (unhide HP).cellsAt hpk
            obtain ⟨hxo, hfo⟩ := block_facts (unhide KO)
            have hPR := (unhide HP).pairs.each pk hpk
            have HPG := hide (slotsPage_any hPR.inv.2.1.bytes (hPR.dev.kept ((Below.refl Z.heap.size Z).alloc (Nat.le_refl _) (.cells #[.pointer (some ⟨L[pk].1, 0, none⟩), .pointer (some ⟨L[pk].2, 0, none⟩)] 91))) vs)
            have HRG := hide (refPage_any (hPR.ref.kept ((Below.refl Z.heap.size Z).alloc (Nat.le_refl _) (.cells #[.pointer (some ⟨L[pk].1, 0, none⟩), .pointer (some ⟨L[pk].2, 0, none⟩)] 91))) hPR.inv.2.1.bytes vs)
            have lz : wr.heap.size < Z.heap.size := (Array.getElem?_eq_some_iff.1 (unhide KO)).1
            have nz : ¬ wr.heap.size = Z.heap.size := by omega
            generalize pageT (D pk).F vs = T at *
            generalize L[pk].1 = bm at *
            generalize L[pk].2 = gm at *
            have hpI : (pk : Int) < (L.length : Int) := by omega
            have hp0 : (0 : Int) ≤ (pk : Int) := by omega
            clear hPR
            refine (unhide HPK _).mono ?_
            rintro e _ ⟨rfl, rfl⟩
            go_wp2_with fail
            refine (unhide HPG).mono ?_
            rintro e _ ⟨rfl, rfl⟩
            go_wp2_with fail
            refine (unhide HRG).mono ?_
            rintro e _ ⟨rfl, rfl⟩
            go_wp2_with fail
            clear HPG HRG
            have HP9 := hide ((unhide HP).kept ((Below.refl Z.heap.size Z).alloc (Nat.le_refl _) (.cells #[.pointer (some ⟨bm, 0, none⟩), .pointer (some ⟨gm, 0, none⟩)] 91)))
            have K9 := hide (alloc_block (unhide KO) (.cells #[.pointer (some ⟨bm, 0, none⟩), .pointer (some ⟨gm, 0, none⟩)] 91))
            clear HPK HP KO r0 r1 hxo hfo hpI hp0 hpk HPL
            have HP := HP9
            have KO := K9
            clear HP9 K9
            generalize (some (⟨gl, 0, none⟩ : Addr)) = ao at *
            generalize (Z.alloc (.cells #[.pointer (some ⟨bm, 0, none⟩), .pointer (some ⟨gm, 0, none⟩)] 91)) = Z2 at *
            go_loopw [9, 14] (fun oki j wz => ∃ m : Nat, m ≤ L.length ∧ oki = .bool true ∧ j = .int .i64 m ∧ Below Z2.heap.size Z2 wz) (fun _ j _ => L.length - (intOf j).toNat)
            case atStart => exact ⟨0, by omega, rfl, rfl, Below.refl _ _⟩
            case round =>
              obtain ⟨m, hm, rfl, rfl, hbZ⟩ := hrel
              have HPZ := hide ((unhide HP).kept hbZ)
              obtain ⟨hxz, hfz⟩ := block_facts (kept_block hbZ (unhide KO))
              have HBZ := hide hbZ
              clear hbZ
              by_cases hm2 : m < L.length
              · cases se
                · have hmI : (m : Int) < (L.length : Int) := by omega
                  go_wp2
                  go_roundw
                  case rel => exact ⟨k + 1, L, D, ao, ca, by omega, by go_num, by omega, rfl, unhide HPZ⟩
                  case measure => simp [intOf]; omega
                · have hmI : (m : Int) < (L.length : Int) := by omega
                  have hm0 : (0 : Int) ≤ (m : Int) := by omega
                  obtain ⟨gl, rfl, r0, r1⟩ := (unhide HPZ).cellsAt hm2
                  have HLO := hide (looks_any ((unhide HPZ).pairs.each m hm2))
                  generalize L[m].1 = bm at *
                  generalize L[m].2 = gm at *
                  go_wp2_with fail
                  refine (unhide HLO).mono ?_
                  rintro e w9 ⟨rfl, hb9⟩
                  have HB9 := hide ((unhide HBZ).trans (hb9.mono (unhide HBZ).size))
                  clear hb9 r0 r1 HLO hxz hfz
                  go_wp2
                  go_roundw
                  case rel => exact ⟨m + 1, by omega, rfl, by go_num, unhide HB9⟩
                  case measure => simp [intOf]; omega
              · have hmI : ¬ (m : Int) < (L.length : Int) := by omega
                go_wp2
                go_roundw
                case rel => exact ⟨k + 1, L, D, ao, ca, by omega, by go_num, by omega, rfl, unhide HPZ⟩
                case measure => simp [intOf]; omega
          · have hL0 : ¬ (0 : Int) < (L.length : Int) := by omega
            go_wp2_with fail
            have HP := hide ((unhide HPL).kept ((Below.refl wr.heap.size wr).alloc (Nat.le_refl _) (.cells #[.int .i64 3, .int .i64 dv, .int .i64 ek, .int .i64 en, .string et, .int .i64 ec, .int .i64 eo, .string ky, .string im, .int .i64 vs, .bool se] 88)))
            have KO : Hid ((wr.alloc (.cells #[.int .i64 3, .int .i64 dv, .int .i64 ek, .int .i64 en, .string et, .int .i64 ec, .int .i64 eo, .string ky, .string im, .int .i64 vs, .bool se] 88)).heap[wr.heap.size]? = some (.cells #[.int .i64 3, .int .i64 dv, .int .i64 ek, .int .i64 en, .string et, .int .i64 ec, .int .i64 eo, .string ky, .string im, .int .i64 vs, .bool se] 88 (0, 0))) := last_block _ _ rfl
            clear c0 c1 c2 c3 c4 c5 c6 c7 c8 c9 c10
            generalize (wr.alloc (.cells #[.int .i64 3, .int .i64 dv, .int .i64 ek, .int .i64 en, .string et, .int .i64 ec, .int .i64 eo, .string ky, .string im, .int .i64 vs, .bool se] 88)) = Z at *
            go_loopw [9, 14] (fun oki j wz => ∃ m : Nat, m ≤ L.length ∧ oki = .bool true ∧ j = .int .i64 m ∧ Below Z.heap.size Z wz) (fun _ j _ => L.length - (intOf j).toNat)
            case atStart => exact ⟨0, by omega, rfl, rfl, Below.refl _ _⟩
            case round =>
              obtain ⟨m, hm, rfl, rfl, hbZ⟩ := hrel
              have HPZ := hide ((unhide HP).kept hbZ)
              obtain ⟨hxz, hfz⟩ := block_facts (kept_block hbZ (unhide KO))
              have HBZ := hide hbZ
              clear hbZ
              by_cases hm2 : m < L.length
              · exact absurd hm2 (by omega)
              · have hmI : ¬ (m : Int) < (L.length : Int) := by omega
                go_wp2
                go_roundw
                case rel => exact ⟨k + 1, L, D, ao, ca, by omega, by go_num, by omega, rfl, unhide HPZ⟩
                case measure => simp [intOf]; omega
        by_cases k4 : kd = 4
        · subst k4
          by_cases hL : 0 < L.length
          · have hLI : (0 : Int) < (L.length : Int) := by omega
            have hpk := M.pk_lt dv L.length (by omega)
            have HPK := hide (fun X => lawPick_any dv L.length X hd0 hd1 (by omega) (by omega))
            generalize M.pk dv L.length = pk at *
            go_wp2_with fail
            have HP := hide ((unhide HPL).kept ((Below.refl wr.heap.size wr).alloc (Nat.le_refl _) (.cells #[.int .i64 4, .int .i64 dv, .int .i64 ek, .int .i64 en, .string et, .int .i64 ec, .int .i64 eo, .string ky, .string im, .int .i64 vs, .bool se] 88)))
            have KO : Hid ((wr.alloc (.cells #[.int .i64 4, .int .i64 dv, .int .i64 ek, .int .i64 en, .string et, .int .i64 ec, .int .i64 eo, .string ky, .string im, .int .i64 vs, .bool se] 88)).heap[wr.heap.size]? = some (.cells #[.int .i64 4, .int .i64 dv, .int .i64 ek, .int .i64 en, .string et, .int .i64 ec, .int .i64 eo, .string ky, .string im, .int .i64 vs, .bool se] 88 (0, 0))) := last_block _ _ rfl
            clear c0 c1 c2 c3 c4 c5 c6 c7 c8 c9 c10
            generalize (wr.alloc (.cells #[.int .i64 4, .int .i64 dv, .int .i64 ek, .int .i64 en, .string et, .int .i64 ec, .int .i64 eo, .string ky, .string im, .int .i64 vs, .bool se] 88)) = Z at *
            obtain ⟨gl, rfl, r0, r1⟩ := (unhide HP).cellsAt hpk
            obtain ⟨hxo, hfo⟩ := block_facts (unhide KO)
            have hPR := (unhide HP).pairs.each pk hpk
            have HTL := hide (tells_any hPR)
            generalize L[pk].1 = bm at *
            generalize L[pk].2 = gm at *
            have hpI : (pk : Int) < (L.length : Int) := by omega
            have hp0 : (0 : Int) ≤ (pk : Int) := by omega
            clear hPR
            refine (unhide HPK _).mono ?_
            rintro e _ ⟨rfl, rfl⟩
            go_wp2_with fail
            refine (unhide HTL).mono ?_
            rintro e w9 ⟨rfl, hb9⟩
            clear HTL
            have HP9 := hide ((unhide HP).kept hb9)
            have K9 := hide (kept_block hb9 (unhide KO))
            clear HPK HP KO r0 r1 hxo hfo hpI hp0 hpk HPL
            have HP := HP9
            have KO := K9
            clear HP9 K9
            generalize (some (⟨gl, 0, none⟩ : Addr)) = ao at *
            clear hb9
            go_wp2_with fail
            go_loopw [9, 14] (fun oki j wz => ∃ m : Nat, m ≤ L.length ∧ oki = .bool true ∧ j = .int .i64 m ∧ Below w9.heap.size w9 wz) (fun _ j _ => L.length - (intOf j).toNat)
            case atStart => exact ⟨0, by omega, rfl, rfl, Below.refl _ _⟩
            case round =>
              obtain ⟨m, hm, rfl, rfl, hbZ⟩ := hrel
              have HPZ := hide ((unhide HP).kept hbZ)
              obtain ⟨hxz, hfz⟩ := block_facts (kept_block hbZ (unhide KO))
              have HBZ := hide hbZ
              clear hbZ
              by_cases hm2 : m < L.length
              · cases se
                · have hmI : (m : Int) < (L.length : Int) := by omega
                  go_wp2
                  go_roundw
                  case rel => exact ⟨k + 1, L, D, ao, ca, by omega, by go_num, by omega, rfl, unhide HPZ⟩
                  case measure => simp [intOf]; omega
                · have hmI : (m : Int) < (L.length : Int) := by omega
                  have hm0 : (0 : Int) ≤ (m : Int) := by omega
                  obtain ⟨gl, rfl, r0, r1⟩ := (unhide HPZ).cellsAt hm2
                  have HLO := hide (looks_any ((unhide HPZ).pairs.each m hm2))
                  generalize L[m].1 = bm at *
                  generalize L[m].2 = gm at *
                  go_wp2_with fail
                  refine (unhide HLO).mono ?_
                  rintro e w9 ⟨rfl, hb9⟩
                  have HB9 := hide ((unhide HBZ).trans (hb9.mono (unhide HBZ).size))
                  clear hb9 r0 r1 HLO hxz hfz
                  go_wp2
                  go_roundw
                  case rel => exact ⟨m + 1, by omega, rfl, by go_num, unhide HB9⟩
                  case measure => simp [intOf]; omega
              · have hmI : ¬ (m : Int) < (L.length : Int) := by omega
                go_wp2
                go_roundw
                case rel => exact ⟨k + 1, L, D, ao, ca, by omega, by go_num, by omega, rfl, unhide HPZ⟩
                case measure => simp [intOf]; omega
          · have hL0 : ¬ (0 : Int) < (L.length : Int) := by omega
            go_wp2_with fail
            have HP := hide ((unhide HPL).kept ((Below.refl wr.heap.size wr).alloc (Nat.le_refl _) (.cells #[.int .i64 4, .int .i64 dv, .int .i64 ek, .int .i64 en, .string et, .int .i64 ec, .int .i64 eo, .string ky, .string im, .int .i64 vs, .bool se] 88)))
            have KO : Hid ((wr.alloc (.cells #[.int .i64 4, .int .i64 dv, .int .i64 ek, .int .i64 en, .string et, .int .i64 ec, .int .i64 eo, .string ky, .string im, .int .i64 vs, .bool se] 88)).heap[wr.heap.size]? = some (.cells #[.int .i64 4, .int .i64 dv, .int .i64 ek, .int .i64 en, .string et, .int .i64 ec, .int .i64 eo, .string ky, .string im, .int .i64 vs, .bool se] 88 (0, 0))) := last_block _ _ rfl
            clear c0 c1 c2 c3 c4 c5 c6 c7 c8 c9 c10
            generalize (wr.alloc (.cells #[.int .i64 4, .int .i64 dv, .int .i64 ek, .int .i64 en, .string et, .int .i64 ec, .int .i64 eo, .string ky, .string im, .int .i64 vs, .bool se] 88)) = Z at *
            go_loopw [9, 14] (fun oki j wz => ∃ m : Nat, m ≤ L.length ∧ oki = .bool true ∧ j = .int .i64 m ∧ Below Z.heap.size Z wz) (fun _ j _ => L.length - (intOf j).toNat)
            case atStart => exact ⟨0, by omega, rfl, rfl, Below.refl _ _⟩
            case round =>
              obtain ⟨m, hm, rfl, rfl, hbZ⟩ := hrel
              have HPZ := hide ((unhide HP).kept hbZ)
              obtain ⟨hxz, hfz⟩ := block_facts (kept_block hbZ (unhide KO))
              have HBZ := hide hbZ
              clear hbZ
              by_cases hm2 : m < L.length
              · exact absurd hm2 (by omega)
              · have hmI : ¬ (m : Int) < (L.length : Int) := by omega
                go_wp2
                go_roundw
                case rel => exact ⟨k + 1, L, D, ao, ca, by omega, by go_num, by omega, rfl, unhide HPZ⟩
                case measure => simp [intOf]; omega
        · have b1 : (kd == 1) = false := by simp [k1]
          have b2 : (kd == 2) = false := by simp [k2]
          have b3 : (kd == 3) = false := by simp [k3]
          have b4 : (kd == 4) = false := by simp [k4]
          go_wp2_with fail
          have HP := hide ((unhide HPL).kept ((Below.refl wr.heap.size wr).alloc (Nat.le_refl _) (.cells #[.int .i64 kd, .int .i64 dv, .int .i64 ek, .int .i64 en, .string et, .int .i64 ec, .int .i64 eo, .string ky, .string im, .int .i64 vs, .bool se] 88)))
          have KO : Hid ((wr.alloc (.cells #[.int .i64 kd, .int .i64 dv, .int .i64 ek, .int .i64 en, .string et, .int .i64 ec, .int .i64 eo, .string ky, .string im, .int .i64 vs, .bool se] 88)).heap[wr.heap.size]? = some (.cells #[.int .i64 kd, .int .i64 dv, .int .i64 ek, .int .i64 en, .string et, .int .i64 ec, .int .i64 eo, .string ky, .string im, .int .i64 vs, .bool se] 88 (0, 0))) := last_block _ _ rfl
          clear c0 c1 c2 c3 c4 c5 c6 c7 c8 c9 c10
          generalize (wr.alloc (.cells #[.int .i64 kd, .int .i64 dv, .int .i64 ek, .int .i64 en, .string et, .int .i64 ec, .int .i64 eo, .string ky, .string im, .int .i64 vs, .bool se] 88)) = Z at *
          go_loopw [9, 14] (fun oki j wz => ∃ m : Nat, m ≤ L.length ∧ oki = .bool true ∧ j = .int .i64 m ∧ Below Z.heap.size Z wz) (fun _ j _ => L.length - (intOf j).toNat)
          case atStart => exact ⟨0, by omega, rfl, rfl, Below.refl _ _⟩
          case round =>
            obtain ⟨m, hm, rfl, rfl, hbZ⟩ := hrel
            have HPZ := hide ((unhide HP).kept hbZ)
            obtain ⟨hxz, hfz⟩ := block_facts (kept_block hbZ (unhide KO))
            have HBZ := hide hbZ
            clear hbZ
            by_cases hm2 : m < L.length
            · cases se
              · have hmI : (m : Int) < (L.length : Int) := by omega
                go_wp2
                go_roundw
                case rel => exact ⟨k + 1, L, D, ao, ca, by omega, by go_num, by omega, rfl, unhide HPZ⟩
                case measure => simp [intOf]; omega
              · have hmI : (m : Int) < (L.length : Int) := by omega
                have hm0 : (0 : Int) ≤ (m : Int) := by omega
                obtain ⟨gl, rfl, r0, r1⟩ := (unhide HPZ).cellsAt hm2
                have HLO := hide (looks_any ((unhide HPZ).pairs.each m hm2))
                generalize L[m].1 = bm at *
                generalize L[m].2 = gm at *
                go_wp2_with fail
                refine (unhide HLO).mono ?_
                rintro e w9 ⟨rfl, hb9⟩
                have HB9 := hide ((unhide HBZ).trans (hb9.mono (unhide HBZ).size))
                clear hb9 r0 r1 HLO hxz hfz
                go_wp2
                go_roundw
                case rel => exact ⟨m + 1, by omega, rfl, by go_num, unhide HB9⟩
                case measure => simp [intOf]; omega
            · have hmI : ¬ (m : Int) < (L.length : Int) := by omega
              go_wp2
              go_roundw
              case rel => exact ⟨k + 1, L, D, ao, ca, by omega, by go_num, by omega, rfl, unhide HPZ⟩
              case measure => simp [intOf]; omega
    · have hkn : ¬ (k : Int) < (l.length : Int) := by omega
      clear hv3 HV HL
      generalize l.length = ln at *
      go_wp2
      go_ret
      exact ⟨rfl, (unhide HPL).low⟩
end
end Go.Proofs.YtjfmiomopfjecabGreat

/- A script that is handed in. -/
namespace Go.Proofs.YtjfmiomopfjecabGreat
open Go.ChangeShapes Go.WideShapes Go.ChangeAt Go.RowKit Go.Joins
open Go.ChangeMaps (open_string shut_string)

theorem wf_i64 {x : Int} (h : (Lit.int .i64 x).wf = true) : -9223372036854775808 ≤ x ∧ x ≤ 9223372036854775807 := by
  simp [Lit.wf, IntKind.min, IntKind.max, IntKind.bits, IntKind.signed] at h
  omega
theorem listOf {α : Type} {P : Nat → α → Prop} (n : Nat) (h : ∀ i, i < n → ∃ x, P i x) : ∃ l : List α, l.length = n ∧ ∀ i (hi : i < l.length), P i l[i] := by
  induction n with
  | zero => exact ⟨[], rfl, fun i hi => absurd hi (by simp)⟩
  | succ n ih =>
    obtain ⟨l, hl, hP⟩ := ih fun i hi => h i (by omega)
    obtain ⟨x, hx⟩ := h n (by omega)
    refine ⟨l ++ [x], by simp [hl], fun i hi => ?_⟩
    by_cases e : i < l.length
    · rw [List.getElem_append_left e]
      exact hP i e
    · have e' : i = n := by simp at hi; omega
      subst e'
      rw [List.getElem_append_right (by omega)]
      simp [hl]
      exact hx
section
variable {H : Type} {enc : TypeId × Value → H} {w : World} {base : Nat} {spare : Nat → Bool} {held : Bool}
set_option maxRecDepth 100000 in
theorem openEv {n : Nat} {v0 v1 v2 v3 v4 : Value} {y : DataW H × List MemPlace} (h : DataW.trod enc Tryz.prog w base spare held n 86 [v0, v1, v2, v3, v4] = some y) :
    ∃ (a b : Int) (t : ByteArray) (c o : Int), v0 = .int .i64 a ∧ v1 = .int .i64 b ∧ v2 = .string t ∧ v3 = .int .i64 c ∧ v4 = .int .i64 o ∧ t.size ≤ maxLen := by
  have hci : Tryz.prog.cellsOf 3 = 1 := by kernel_rfl
  have hcs : Tryz.prog.cellsOf 9 = 1 := by kernel_rfl
  obtain ⟨xs, m, _, hx, _, hlen, hfd⟩ := DataW.trod_struct Tryz.underlying86 h
  match xs, hlen with
  | [y0, y1, y2, y3, y4], _ =>
    have h0 := hfd 0 _ rfl
    have h1 := hfd 1 _ rfl
    have h2 := hfd 2 _ rfl
    have h3 := hfd 3 _ rfl
    have h4 := hfd 4 _ rfl
    simp [hci, hcs] at h0 h1 h2 h3 h4
    obtain ⟨a, e0, rfl, _⟩ := DataW.trod_int Tryz.underlying3 h0
    obtain ⟨b, e1, rfl, _⟩ := DataW.trod_int Tryz.underlying3 h1
    obtain ⟨t, e2, rfl, wt⟩ := DataW.trod_string Tryz.underlying9 h2
    obtain ⟨c, e3, rfl, _⟩ := DataW.trod_int Tryz.underlying3 h3
    obtain ⟨o, e4, rfl, _⟩ := DataW.trod_int Tryz.underlying3 h4
    simp only [List.cons.injEq, and_true] at e0 e1 e2 e3 e4
    exact ⟨a, b, t, c, o, e0, e1, e2, e3, e4, wt⟩
set_option maxRecDepth 100000 in
theorem openOp {n : Nat} {cs : List Value} {y : DataW H × List MemPlace} (h : DataW.trod enc Tryz.prog w base spare held n 88 cs = some y) : ∃ x : OpS, cs = opC x ∧ OpOk x := by
  have hcO : Tryz.prog.cellsOf 88 = 11 := by kernel_rfl
  have hcE : Tryz.prog.cellsOf 86 = 5 := by kernel_rfl
  have hci : Tryz.prog.cellsOf 3 = 1 := by kernel_rfl
  have hcs : Tryz.prog.cellsOf 9 = 1 := by kernel_rfl
  have hcb : Tryz.prog.cellsOf 4 = 1 := by kernel_rfl
  obtain ⟨xs, m, _, hx, hcl, hlen, hfd⟩ := DataW.trod_struct Tryz.underlying88 h
  rw [hcO] at hcl
  match xs, hlen with
  | [y0, y1, y2, y3, y4, y5, y6], _ =>
    match cs, hcl with
    | [c0, c1, c2, c3, c4, c5, c6, c7, c8, c9, c10], _ =>
      have h0 := hfd 0 _ rfl
      have h1 := hfd 1 _ rfl
      have h2 := hfd 2 _ rfl
      have h3 := hfd 3 _ rfl
      have h4 := hfd 4 _ rfl
      have h5 := hfd 5 _ rfl
      have h6 := hfd 6 _ rfl
      simp [hci, hcs, hcb, hcE] at h0 h1 h2 h3 h4 h5 h6
      obtain ⟨kd, e0, rfl, _⟩ := DataW.trod_int Tryz.underlying3 h0
      obtain ⟨dv, e1, rfl, wd⟩ := DataW.trod_int Tryz.underlying3 h1
      obtain ⟨a, b, t, c, o, e2, e3, e4, e5, e6, wt⟩ := openEv h2
      obtain ⟨ky, e7, rfl, wk⟩ := DataW.trod_string Tryz.underlying9 h3
      obtain ⟨im, e8, rfl, wi⟩ := DataW.trod_string Tryz.underlying9 h4
      obtain ⟨vs, e9, rfl, _⟩ := DataW.trod_int Tryz.underlying3 h5
      obtain ⟨se, e10, rfl⟩ := DataW.trod_bool Tryz.underlying4 h6
      simp only [List.cons.injEq, and_true] at e0 e1 e7 e8 e9 e10
      subst e0 e1 e2 e3 e4 e5 e6 e7 e8 e9 e10
      exact ⟨⟨kd, dv, a, b, t, c, o, ky, im, vs, se⟩, rfl, ⟨wf_i64 wd, wt, wk, wi⟩⟩
theorem opBytes : Tryz.prog.bytesOf 88 = 112 := by kernel_rfl
set_option maxRecDepth 100000 in
/-- a script that is handed in -/
theorem openOps {r : Reach} {b0 : Nat} {v : Value} {d : DataW H} {p : List MemPlace} (hv : Value.okWide Tryz.prog w r b0 63 v) (h : DataW.Trod enc Tryz.prog w base spare held 63 v d p) :
    ∃ l : List OpS, HoldsOps w v l.length (opsC l) ∧ (∀ x ∈ l, OpOk x) ∧ (l.length = 0 ∨ ∃ elems spare, d = .slice elems spare ∧ l.length = elems.length) := by
  have hcB : Tryz.prog.cellsOf 88 = 11 := by kernel_rfl
  obtain ⟨a0, len, cap, rfl⟩ := okWide_slice Tryz.underlying63 hv
  obtain ⟨fuel, hf⟩ := h
  rcases DataW.trod_slice Tryz.underlying63 hf with ⟨e, _⟩ | ⟨a, n, cp, elems, rest, m, _, e, hx, hb, hl, hm, hlen, hel, _, _⟩
  · simp [Value.cells] at e
    obtain ⟨rfl, rfl, rfl⟩ := e
    exact ⟨[], .inl ⟨_, _, rfl, rfl⟩, by simp, .inl rfl⟩
  · simp [Value.cells] at e
    obtain ⟨rfl, rfl, rfl⟩ := e
    rw [hcB] at hel
    have each : ∀ i, i < len → ∃ x : OpS, (∀ k, k < 11 → w.cell? ((a.add (i * 11)).add k) = (opC x)[k]?) ∧ OpOk x := by
      intro i hi
      have hE := hel i hi
      rw [List.getElem?_eq_getElem (by omega)] at hE
      obtain ⟨cs, hcs, ht⟩ := Option.bind_eq_some_iff.1 hE
      obtain ⟨x, rfl, wx⟩ := openOp ht
      exact ⟨x, (World.cells?_some hcs).2.2, wx⟩
    obtain ⟨l, hll, hP⟩ := listOf len each
    have hbl : l.length = 0 ∨ ∃ elems spare, d = .slice elems spare ∧ l.length = elems.length := by
      simp only [Prod.mk.injEq] at hx
      exact .inr ⟨_, _, hx.1, by rw [hll, List.length_map, hlen]⟩
    by_cases h0 : len = 0
    · subst h0
      have : l = [] := List.eq_nil_of_length_eq_zero hll
      subst this
      exact ⟨[], .inl ⟨_, _, rfl, rfl⟩, by simp, .inl rfl⟩
    · obtain ⟨b, off, spot⟩ := a
      have hspot : spot = none := by
        have := (hP 0 (by omega)).1 0 (by omega)
        simpa [Addr.add] using World.cell?_spot this
      subst hspot
      have hcell : ∀ i (hi : i < l.length) k, k < 11 → w.cell? ⟨b, off + (11 * i + k), none⟩ = (opC l[i])[k]? := by
        intro i hi k hk
        have := (hP i hi).1 k hk
        rw [add_plain, add_plain] at this
        rw [show off + (11 * i + k) = off + i * 11 + k from by omega]
        exact this
      refine ⟨l, .inr ⟨b, off, cap, by rw [hll], ?_, by omega, hm, ?_⟩, fun x hx => ?_, hbl⟩
      · exact World.block_lt_of_cell? w _ (hcell 0 (by omega) 0 (by omega))
      · intro j u hj
        have hjl : j < 11 * l.length := by
          have := (List.getElem?_eq_some_iff.1 hj).1
          rw [opsC_length] at this
          exact this
        have hi : j / 11 < l.length := by omega
        have hq : j = 11 * (j / 11) + j % 11 := by omega
        have hc := hcell (j / 11) hi (j % 11) (by omega)
        rw [← opsC_at l (j / 11) hi (j % 11) (by omega), ← hq] at hc
        rw [hc]
        exact hj
      · obtain ⟨i, hi, rfl⟩ := List.getElem_of_mem hx
        exact (hP i hi).2
end
end Go.Proofs.YtjfmiomopfjecabGreat

/- Texts laid together: RefNote2. -/
import Derived.Test.YtjfmiomopfjecabGreatAe
import Derived.Deep.RegionHeld
import Derived.Test.YtjfmiomopfjecabGreatAa
import Derived.Test.YtjfmiomopfjecabGreatAb
import Derived.Test.YtjfmiomopfjecabGreatAc
import Derived.Test.YtjfmiomopfjecabGreatAd
/- The document's device: a new record: the walk. -/
namespace Go.Proofs.YtjfmiomopfjecabGreat
open Go.RowKit Go.Lib

section
variable {X : World} {g q : Nat} {d : M.Dev} {l : List GW} {err ver : Int} {text : ByteArray} {ask wait next age : Int} {on : Bool}
set_option maxRecDepth 10000 in
set_option maxHeartbeats 8000000 in
theorem refNotes_any (hR : RefAt X g d) (hF : ∀ j, d.F j < 256) (h : PlanAt X q l err ver text ask wait next age on) (hl : l.length ≤ 50) (k kept phase tries there : Nat) (hk : k ≤ 1) (h1 : kept < 256) (h2 : phase < 256) (h3 : tries < 256) (h4 : there < 256) (ls vs : ByteArray) (hls : ls.size = 2) (hvs : vs.size = 4)
    (pg : Nat) (hpg : pg = if k % 2 = 1 then M.recAt d.F else 1 - M.recAt d.F) :
    Calls Tryz.prog 154 #[.pointer (some ⟨g, 0, none⟩), .pointer (some ⟨q, 0, none⟩), .int .i64 k, .int .i64 kept, .int .i64 phase, .int .i64 tries, .string ls, .string vs, .int .i64 there] X fun e w' =>
      e = .returned (.tuple #[]) ∧ PlanAt w' q (l ++ [(pg, recT16 ((M.fld d.F 0 + 1 + k) % 256) kept phase tries ls vs there)]) err ver text ask wait next age on ∧ Below q X w' := by
  have H0 := hide (refField_any hR hF 0 (by omega))
  have HWH := hide (fun (Y : World) (hY : RefAt Y g d) => refWhere_any hY hF)
  have b0 : M.fld d.F 0 < 256 := hF _
  have hw1 := recAt_le d.F
  have HT : Hid (M.bytesOf [(M.fld d.F 0 + 1 + k) % 256] ++ M.bytesOf [kept, phase, tries] ++ ls ++ vs ++ M.bytesOf [there] ++ (M.mk 4 fun _ => 0) ++ M.bytesOf [(M.fld d.F 0 + 1 + k) % 256] = recT16 ((M.fld d.F 0 + 1 + k) % 256) kept phase tries ls vs there) := note_text (by omega) h1 h2 h3 h4 hls hvs
  have hB : ∀ j, j < 16 → M.recB ((M.fld d.F 0 + 1 + k) % 256) kept phase tries (M.bz ls 0) (M.bz ls 1) (M.bz vs 0) (M.bz vs 1) (M.bz vs 2) (M.bz vs 3) there j < 256 := fun j hj => M.recB_bytes (by omega) h1 h2 h3 (M.bz_lt _ _) (M.bz_lt _ _) (M.bz_lt _ _) (M.bz_lt _ _) (M.bz_lt _ _) (M.bz_lt _ _) h4 0 j hj
  have HSELF := hide (mk_self hB)
  have hz16 : (recT16 ((M.fld d.F 0 + 1 + k) % 256) kept phase tries ls vs there).size = 16 := M.mk_size _ _
  have HWR : Hid (∀ (Y : World) (_ : PlanAt Y q l err ver text ask wait next age on) (z : Int) (_ : z = pg), Calls Tryz.prog 151 #[.pointer (some ⟨q, 0, none⟩), .int .i64 z, .string (recT16 ((M.fld d.F 0 + 1 + k) % 256) kept phase tries ls vs there)] Y fun e w' => e = .returned (.tuple #[]) ∧ PlanAt w' q (l ++ [(pg, recT16 ((M.fld d.F 0 + 1 + k) % 256) kept phase tries ls vs there)]) err ver text ask wait next age on ∧ Below q Y w') := by
    rintro Y hY z rfl
    have := refWrites_any hY pg (recT16 ((M.fld d.F 0 + 1 + k) % 256) kept phase tries ls vs there) (by rw [hz16]; omega) hl
    rw [HSELF.out] at this
    exact this
  have hNm : (((M.fld d.F 0 : Int) + 1 + (k : Int)).tmod 256) = (((M.fld d.F 0 + 1 + k) % 256 : Nat) : Int) := by rw [Int.tmod_eq_emod_of_nonneg (by omega)]; omega
  have hN : (M.fld d.F 0 + 1 + k) % 256 < 256 := by omega
  have HP := hide h
  have HRF := hide hR
  have hgl := hR.lt
  have hql := h.ref
  clear hB HSELF hF h hR
  generalize recT16 ((M.fld d.F 0 + 1 + k) % 256) kept phase tries ls vs there = TX at *
  generalize hNN : (M.fld d.F 0 + 1 + k) % 256 = N at *
  clear hNN
  generalize M.fld d.F 0 = f0 at *
  have hr1 : (convert 79 9 (.slice (some ⟨X.heap.size, 0, none⟩) 1 1)).run Tryz.prog (X.alloc (.cells #[.int .u8 N] 5)) = .ok (.string (M.bytesOf [N])) (X.alloc (.cells #[.int .u8 N] 5)) := text_run X [(N : Int)] 1 rfl
  have e1 : (M.bytesOf [N]).size = 1 := rfl
  generalize M.bytesOf [N] = NT at *
  go_enter Tryz.func154, Tryz.ntmps154
  (go_wp2_with fail); (refine (unhide H0).mono ?_); (rintro e w' ⟨rfl, rfl⟩)
  go_wp2_with fail
  have HP1 : Hid (PlanAt (X.alloc (.cells #[.int .u8 N] 5)) q l err ver text ask wait next age on) := (unhide HP).kept ((Below.refl _ _).alloc (Nat.le_refl _) _)
  have HR1 : Hid (RefAt (X.alloc (.cells #[.int .u8 N] 5)) g d) := (unhide HRF).kept ((Below.refl _ _).alloc (Nat.le_refl _) _)
  have HB1 : Hid (Below X.heap.size X (X.alloc (.cells #[.int .u8 N] 5))) := (Below.refl _ _).alloc (Nat.le_refl _) _
  clear hr1 HP HRF H0 hNm
  generalize (X.alloc (.cells #[.int .u8 N] 5)) = Y at *
  have hr1 : (convert 79 9 (.slice (some ⟨Y.heap.size, 0, none⟩) 3 3)).run Tryz.prog ((Y.alloc (.cells #[.int .u8 kept, .int .u8 phase, .int .u8 tries] 5)).drew) = .ok (.string (M.bytesOf [kept, phase, tries])) ((Y.alloc (.cells #[.int .u8 kept, .int .u8 phase, .int .u8 tries] 5)).drew) := text_in _ _ [(kept : Int), phase, tries] 3 rfl (drew_block (last_block Y _ rfl))
  have hr6 : (convert 79 9 (.slice (some ⟨Y.heap.size, 0, none⟩) 3 3)).run Tryz.prog (((Y.alloc (.cells #[.int .u8 kept, .int .u8 phase, .int .u8 tries] 5)).alloc (.cells #[.int .u8 there] 5)).drew) = .ok (.string (M.bytesOf [kept, phase, tries])) (((Y.alloc (.cells #[.int .u8 kept, .int .u8 phase, .int .u8 tries] 5)).alloc (.cells #[.int .u8 there] 5)).drew) := text_in _ _ [(kept : Int), phase, tries] 3 rfl (drew_block (first_block Y _ _))
  have hr7 : (convert 79 9 (.slice (some ⟨Y.heap.size + 1, 0, none⟩) 1 1)).run Tryz.prog (((Y.alloc (.cells #[.int .u8 kept, .int .u8 phase, .int .u8 tries] 5)).alloc (.cells #[.int .u8 there] 5)).drew) = .ok (.string (M.bytesOf [there])) (((Y.alloc (.cells #[.int .u8 kept, .int .u8 phase, .int .u8 tries] 5)).alloc (.cells #[.int .u8 there] 5)).drew) := text_in _ _ [(there : Int)] 1 rfl (drew_block (second_block Y _ _))
  have hr10 : (convert 79 9 (.slice (some ⟨Y.heap.size, 0, none⟩) 1 1)).run Tryz.prog ((Y.alloc (.cells #[.int .u8 there] 5)).drew) = .ok (.string (M.bytesOf [there])) ((Y.alloc (.cells #[.int .u8 there] 5)).drew) := text_in _ _ [(there : Int)] 1 rfl (drew_block (last_block Y _ rfl))
  have hr15 : (convert 79 9 (.slice (some ⟨Y.heap.size, 0, none⟩) 1 1)).run Tryz.prog (((Y.alloc (.cells #[.int .u8 there] 5)).alloc (.cells #[.int .u8 kept, .int .u8 phase, .int .u8 tries] 5)).drew) = .ok (.string (M.bytesOf [there])) (((Y.alloc (.cells #[.int .u8 there] 5)).alloc (.cells #[.int .u8 kept, .int .u8 phase, .int .u8 tries] 5)).drew) := text_in _ _ [(there : Int)] 1 rfl (drew_block (first_block Y _ _))
  have hr16 : (convert 79 9 (.slice (some ⟨Y.heap.size + 1, 0, none⟩) 3 3)).run Tryz.prog (((Y.alloc (.cells #[.int .u8 there] 5)).alloc (.cells #[.int .u8 kept, .int .u8 phase, .int .u8 tries] 5)).drew) = .ok (.string (M.bytesOf [kept, phase, tries])) (((Y.alloc (.cells #[.int .u8 there] 5)).alloc (.cells #[.int .u8 kept, .int .u8 phase, .int .u8 tries] 5)).drew) := text_in _ _ [(kept : Int), phase, tries] 3 rfl (drew_block (second_block Y _ _))
  have e3 : (M.bytesOf [kept, phase, tries]).size = 3 := rfl
  have e4 : (M.bytesOf [there]).size = 1 := rfl
  have HZ4 : Hid (∀ w : World, Calls Tryz.prog 88 #[.int .i64 4] w fun e w' => e = .returned (.string (M.mk 4 fun _ => 0)) ∧ w = w') := fun w => noughts_any 4 w (by omega)
  have e5 : (M.mk 4 fun _ => 0).size = 4 := M.mk_size _ _
  generalize M.bytesOf [kept, phase, tries] = K3 at *
  generalize M.bytesOf [there] = T1 at *
  generalize (M.mk 4 fun _ => 0) = Z4 at *
  have w1 : IntKind.u8.wrap (kept : Int) = kept := by simp [IntKind.wrap, IntKind.bits, IntKind.signed]; omega
  have w2 : IntKind.u8.wrap (phase : Int) = phase := by simp [IntKind.wrap, IntKind.bits, IntKind.signed]; omega
  have w3 : IntKind.u8.wrap (tries : Int) = tries := by simp [IntKind.wrap, IntKind.bits, IntKind.signed]; omega
  have w4 : IntKind.u8.wrap (there : Int) = there := by simp [IntKind.wrap, IntKind.bits, IntKind.signed]; omega
  refine cut_normal (fun a Z => ∃ (x30 x31 x32 x33 x34 x35 x36 x37 x38 x39 x40 x41 x42 x43 x44 x45 x46 x47 x48 x49 x50 x51 x52 : Value), a = ⟨#[.pointer (some ⟨g, 0, none⟩), .pointer (some ⟨q, 0, none⟩), .int .i64 k, .int .i64 kept, .int .i64 phase, .int .i64 tries, .string ls, .string vs, .int .i64 there, undef, undef, undef, undef, undef, undef, undef, undef, undef, .string NT, .string (NT ++ K3 ++ ls ++ vs ++ T1 ++ Z4 ++ NT), undef, .pointer (some ⟨g, 0, none⟩), .int .i64 f0, .int .i64 (f0 + 1), .int .i64 k, .int .i64 (f0 + 1 + k), .int .i64 N, .int .u8 N, .slice (some ⟨X.heap.size, 0, none⟩) 1 1, .string NT, x30, x31, x32, x33, x34, x35, x36, x37, x38, x39, x40, x41, x42, x43, x44, x45, x46, x47, x48, x49, x50, x51, x52, undef, undef, undef, undef, undef, undef, undef, undef, undef, undef, undef, undef], []⟩ ∧ Below Y.heap.size Y Z) ?_ ?_
  · go_region_held (fun _ => True) (first | trivial | (intros; trivial)) ((first | (go_at_call 88; with_reducible refine (unhide HZ4 _).mono ?_; rintro y wN ⟨rfl, rfl⟩)))
    all_goals
      refine onNormal ⟨_, _, _, _, _, _, _, _, _, _, _, _, _, _, _, _, _, _, _, _, _, _, _, rfl, ?_⟩
      repeat (first | with_reducible exact Below.refl _ _ | with_reducible refine bdrew ?_ | (with_reducible refine balloc ?_ ?_; (focus (first | omega | (simp; done) | (simp; omega)))))
  · rintro _ Z ⟨x30, x31, x32, x33, x34, x35, x36, x37, x38, x39, x40, x41, x42, x43, x44, x45, x46, x47, x48, x49, x50, x51, x52, rfl, hbZ⟩
    have HBZ := hide hbZ
    have HRZ := hide ((unhide HR1).kept hbZ)
    have HPZ := hide ((unhide HP1).kept hbZ)
    clear hbZ
    clear hr1 hr6 hr7 hr10 hr15 hr16 w1 w2 w3 w4
    have HPG := hide hpg
    clear hpg
    have hk2 : k = 0 ∨ k = 1 := by omega
    clear hk
    rcases hk2 with rfl | rfl
    · have HPG0 : Hid ((1 : Int) - (M.recAt d.F : Int) = pg) := by show _ = _; rw [HPG.out, if_neg (by omega)]; omega
      clear HPG
      (go_wp2_with fail)
      refine (unhide HWH _ (unhide HRZ)).mono ?_
      rintro e _ ⟨rfl, rfl⟩
      generalize M.recAt d.F = ra at *
      (go_wp2_with fail)
      rw [HT.out]
      refine (unhide HWR _ (unhide HPZ) _ HPG0.out).mono ?_
      rintro e w9 ⟨rfl, hp9, hb9⟩
      have HP9 := hide hp9
      have HB9 := hide hb9
      clear hp9 hb9
      go_wp2
      refine bodyPost_end (v := .tuple #[]) (by simp [results, Tryz.results154, go_sem]) rfl ⟨rfl, unhide HP9, ?_⟩
      have hs1 := (unhide HB1).size
      refine Below.trans ((unhide HB1).mono (by omega)) (Below.trans ?_ (unhide HB9))
      exact (unhide HBZ).mono (by omega)
    · have HPG0 : Hid ((1 : Int) - (1 - (M.recAt d.F : Int)) = pg) := by show _ = _; rw [HPG.out, if_pos (by omega)]; omega
      clear HPG
      (go_wp2_with fail)
      refine (unhide HWH _ (unhide HRZ)).mono ?_
      rintro e _ ⟨rfl, rfl⟩
      generalize M.recAt d.F = ra at *
      (go_wp2_with fail)
      rw [HT.out]
      refine (unhide HWR _ (unhide HPZ) _ HPG0.out).mono ?_
      rintro e w9 ⟨rfl, hp9, hb9⟩
      have HP9 := hide hp9
      have HB9 := hide hb9
      clear hp9 hb9
      go_wp2
      refine bodyPost_end (v := .tuple #[]) (by simp [results, Tryz.results154, go_sem]) rfl ⟨rfl, unhide HP9, ?_⟩
      have hs1 := (unhide HB1).size
      refine Below.trans ((unhide HB1).mono (by omega)) (Below.trans ?_ (unhide HB9))
      exact (unhide HBZ).mono (by omega)
end
end Go.Proofs.YtjfmiomopfjecabGreat

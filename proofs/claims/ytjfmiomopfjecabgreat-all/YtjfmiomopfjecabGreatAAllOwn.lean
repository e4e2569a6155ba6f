/-
  For every script slotslaw.All answers true: every event on every device, the power failing anywhere, is answered as the document says, and so is all that there is to see of the devices (P1, P9 to P18).
  Conditions: none; nothing that was in memory is changed.
-/
import Derived.Test.YtjfmiomopfjecabGreatAi
import Derived.SizedLaws
namespace Go.Proofs.YtjfmiomopfjecabGreat.all
open Go.ChangeShapes Go.WideShapes Go.ChangeAt Go.RowKit Go.Joins
open Go.ChangeMaps (open_string shut_string)

theorem own : ownKnob Tryz.prog.godebug = none := by kernel_rfl

set_option maxRecDepth 10000 in
theorem allWalk {v : Value} {l : List OpS} {W : World} (hv : HoldsOps W v l.length (opsC l)) (hl : ∀ x ∈ l, OpOk x) (hlen : l.length ≤ 1999999999999) :
    Calls Tryz.prog 9 #[v] W fun e w' => e = .returned (.bool true) ∧ Below W.heap.size W w' := by
  have HP := hide (plays_any hv hl hlen false)
  clear hv hl hlen
  go_enter Tryz.func9, Tryz.ntmps9
  go_wp2_with fail
  refine (unhide HP).mono ?_
  rintro e w1 ⟨rfl, hb⟩
  go_wp2
  go_ret
  exact ⟨rfl, hb⟩

set_option maxRecDepth 100000 in
theorem allLifted (os : Os) (started : os.Started) (H : Type) (enc : TypeId × Value → H) :
    ReturnsInHanded {} Tryz.checked os 9 .any (Rows.allSpec.pre6 enc Tryz.prog Tryz.f9 Rows.allRow.domain false) (Rows.allSpec.post enc Tryz.prog Tryz.f9 false true false false) := by
  refine returnsInHanded_of_change_sized (C := Tryz.checked) own started (by kernel_rfl) Tryz.func9
    (ChangeSpec.witness6 (enc := enc) (C := Tryz.checked) false ⟨#[], #[.slice none 0 0], []⟩ 8 (by kernel_rfl) (by kernel_rfl) (by kernel_rfl) (by kernel_rfl)) ?_
  intro W base args ds gs before hval0 hW hcnd hsz0 _
  have hval : ∀ (j : Nat) t v, Tryz.f9.params[j]? = some t → args[j]? = some v → Value.okWide Tryz.prog W .any base t v := hval0
  have hsz : (DataW.weightsEach Tryz.prog (Tryz.f9.params.toList ++ Rows.allSpec.plain.varTypes Tryz.prog) (ds ++ gs)).all (· ≤ reachBytes) = true := hsz0
  have hW' := hW
  obtain ⟨p, q, hA0, hV, rfl, hfz, hnd⟩ := hW
  have hA : DataW.TrodAll enc Tryz.prog W 0 (fun _ => true) true Tryz.f9.params.toList args.toList ds p := hA0
  rw [Tryz.params9] at hA hval hsz
  obtain ⟨v0, vs0, d0, ds0, p0, q0, hargs, rfl, rfl, h0, r0⟩ := trodAll_cons hA
  obtain ⟨rfl, rfl, rfl⟩ := trodAll_nil r0
  obtain rfl : args = #[v0] := by cases args; simp_all
  obtain ⟨rfl, rfl⟩ := trodVars_none hV
  have k0 := h0
  obtain ⟨l0, row0, ok0, bulk0⟩ := openOps (hval 0 63 v0 rfl rfl) h0
  clear hA0 hval0
  have hlen : l0.length ≤ 1999999999999 := by
    rcases bulk0 with h | ⟨elems, spare, hd, hl⟩
    · omega
    · have hs := sized_slice hsz (j := 0) (t := 63) (e := 88) (elems := elems) (spare := spare) rfl (by rw [hd]; rfl) Tryz.underlying63
      rw [opBytes] at hs
      unfold reachBytes at hs
      omega
  have hlt : ∀ x ∈ p0, x.block < W.heap.size := fun x hx => hW'.lt x (by simp [hx])
  refine (allWalk row0 ok0 hlen).mono fun e W' ⟨he, hg⟩ => ?_
  subst he
  refine ⟨_, rfl, _, _, _, [], (p0 ++ []), [], hW', ?_, ?_, ?_, hg.frame _, fun h => by cases h⟩
  · exact trodAll_cons_mk (shut_bool Tryz.underlying4 _) trodAll_mk0
  · exact trodAll_cons_mk (Below.trod (by kernel_rfl) (by kernel_rfl) (of_decide_eq_true (by kernel_rfl)) k0 hg (fun x hx => hlt x (by simp [hx]))) trodAll_mk0
  · rfl
end Go.Proofs.YtjfmiomopfjecabGreat.all

namespace Go.Proofs.YtjfmiomopfjecabGreat
theorem all_holds : Rows.AllSaid :=
  OpenClaim.holds_of_wide 9 Tryz.f9 rfl rfl rfl rfl rfl rfl rfl ⟨rfl, rfl, rfl, rfl, rfl⟩ rfl rfl rfl rfl rfl (by kernel_rfl) Tryz.func9 (by kernel_rfl)
    (of_decide_eq_true (by kernel_rfl)) (by unfold Func.isWrapper; first | (rw [if_pos (by decide +kernel)]; kernel_rfl) | (rw [if_neg (by decide +kernel)]; exact ⟨rfl, rfl⟩))
    (fun os started H enc _ => all.allLifted os started H enc)
#print axioms all_holds
end Go.Proofs.YtjfmiomopfjecabGreat

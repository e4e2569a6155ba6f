/-
  For every net, numbers and text slotskeep.Nodes answers true: inputs are what was asked, and each node does to any two values of any net what the table says (P4).
  Conditions: none; nothing that was in memory is changed.
-/
import Derived.Test.YtjfmiomopfjecaaNodeLaw
import Derived.ProofKit
import Derived.OpenShut
import Derived.ShutString
import Derived.Lib.SmallJoins
namespace Go.Proofs.Ytjfmiomopfjecaa.nodes
open Go.ChangeShapes Go.WideShapes Go.ChangeAt Go.RowKit Go.Joins
open Go.ChangeMaps (open_string shut_string)

theorem own : ownKnob Try.prog.godebug = none := by kernel_rfl
theorem cellsNet : Try.prog.cellsOf 33 = 4 := by kernel_rfl

set_option maxRecDepth 100000 in
theorem lifted (os : Os) (started : os.Started) (H : Type) (enc : TypeId × Value → H) :
    ReturnsInHanded {} Try.checked os 6 .any (Rows.nodesSpec.pre6 enc Try.prog Try.f6 Rows.nodesRow.domain false) (Rows.nodesSpec.post enc Try.prog Try.f6 false true false false) := by
  refine returnsInHanded_of_change (C := Try.checked) own started (by kernel_rfl) Try.func6
    (ChangeSpec.witness6 (enc := enc) (C := Try.checked) false ⟨#[], #[.agg #[.int .i64 0, .int .i64 0, .string ByteArray.empty, .string ByteArray.empty], .int .i64 0, .int .i64 0, .int .i64 0, .string ByteArray.empty], []⟩ 8 (by kernel_rfl) (by kernel_rfl) (by kernel_rfl) (by kernel_rfl)) ?_
  intro W base args ds gs before hval0 hW hcnd _
  have hval : ∀ (j : Nat) t v, Try.f6.params[j]? = some t → args[j]? = some v → Value.okWide Try.prog W .any base t v := hval0
  have hW' := hW
  obtain ⟨p, q, hA0, hV, rfl, hfz, hnd⟩ := hW
  have hA : DataW.TrodAll enc Try.prog W 0 (fun _ => true) true Try.f6.params.toList args.toList ds p := hA0
  rw [Try.params6] at hA hval
  obtain ⟨v0, vs0, d0, ds0, p0, q0, hargs, rfl, rfl, h0, r0⟩ := trodAll_cons hA
  obtain ⟨v1, vs1, d1, ds1, p1, q1, rfl, rfl, rfl, h1, r1⟩ := trodAll_cons r0
  obtain ⟨v2, vs2, d2, ds2, p2, q2, rfl, rfl, rfl, h2, r2⟩ := trodAll_cons r1
  obtain ⟨v3, vs3, d3, ds3, p3, q3, rfl, rfl, rfl, h3, r3⟩ := trodAll_cons r2
  obtain ⟨v4, vs4, d4, ds4, p4, q4, rfl, rfl, rfl, h4, r4⟩ := trodAll_cons r3
  obtain ⟨rfl, rfl, rfl⟩ := trodAll_nil r4
  obtain rfl : args = #[v0, v1, v2, v3, v4] := by cases args; simp_all
  obtain ⟨rfl, rfl⟩ := trodVars_none hV
  obtain ⟨c0, c1, c2, c3, y0, y1, y2, y3, m, rfl, rfl, rfl, hy0, hy1, hy2, hy3⟩ := open_agg4 Try.underlying33 (by kernel_rfl) cellsNet (hval 0 33 v0 rfl rfl) h0
  obtain ⟨i, e0, rfl, wi⟩ := DataW.trod_int Try.underlying3 hy0
  obtain ⟨o, e1, rfl, wo⟩ := DataW.trod_int Try.underlying3 hy1
  obtain ⟨t, e2, rfl, wt⟩ := DataW.trod_string Try.underlying9 hy2
  obtain ⟨s, e3, rfl, ws⟩ := DataW.trod_string Try.underlying9 hy3
  simp only [List.cons.injEq, and_true] at e0 e1 e2 e3
  subst e0 e1 e2 e3
  obtain ⟨op, rfl, rfl, rfl, wop⟩ := open_int Try.underlying3 (hval 1 3 v1 rfl rfl) h1
  obtain ⟨a, rfl, rfl, rfl, wa⟩ := open_int Try.underlying3 (hval 2 3 v2 rfl rfl) h2
  obtain ⟨b, rfl, rfl, rfl, wb⟩ := open_int Try.underlying3 (hval 3 3 v3 rfl rfl) h3
  obtain ⟨inp, rfl, rfl, rfl, win⟩ := open_string Try.underlying9 (hval 4 9 v4 rfl rfl) h4
  clear hA0 hval0
  simp only [List.append_nil] at hW'
  have bi := bounds_i64 wi
  have bop := bounds_i64 wop
  have ba := bounds_i64 wa
  have bb := bounds_i64 wb
  refine (nodesLaw i o t s op a b inp W bi.1 bi.2 wt ws bop.1 bop.2 ba.1 ba.2 bb.1 bb.2 win).mono fun e W' ⟨he, hg⟩ => ?_
  subst he
  have structReads : ∀ (W' : World) (sp : Nat → Bool), DataW.Trod enc Try.prog W' 0 sp true 33 (.agg #[.int .i64 i, .int .i64 o, .string t, .string s]) (.agg [.lit (.int .i64 i), .lit (.int .i64 o), .lit (.string t.data.toList), .lit (.string s.data.toList)]) [] := fun W' sp =>
    shut_agg4 (y0 := (.lit (.int .i64 i), [])) (y1 := (.lit (.int .i64 o), [])) (y2 := (.lit (.string t.data.toList), [])) (y3 := (.lit (.string s.data.toList), [])) Try.underlying33 (by kernel_rfl) cellsNet
      ⟨1, by simp [DataW.trod, Try.underlying3, wi]⟩ ⟨1, by simp [DataW.trod, Try.underlying3, wo]⟩ ⟨1, by simp [DataW.trod, Try.underlying9, wt]⟩ ⟨1, by simp [DataW.trod, Try.underlying9, ws]⟩
  refine ⟨_, rfl, _, _, _, [], [], [], hW', ?_, ?_, ?_, hg.frame _, fun h => by cases h⟩
  · exact trodAll_cons_mk (shut_bool Try.underlying4 _) trodAll_mk0
  · exact trodAll_cons_mk (structReads W' _) (trodAll_cons_mk (shut_int Try.underlying3 wop) (trodAll_cons_mk (shut_int Try.underlying3 wa) (trodAll_cons_mk (shut_int Try.underlying3 wb) (trodAll_cons_mk (shut_string Try.underlying9 win) trodAll_mk0))))
  · rfl
end Go.Proofs.Ytjfmiomopfjecaa.nodes

namespace Go.Proofs.Ytjfmiomopfjecaa
theorem nodes_holds : Rows.NodesSaid :=
  OpenClaim.holds_of_wide 6 Try.f6 rfl rfl rfl rfl rfl rfl rfl ⟨rfl, rfl, rfl, rfl, rfl⟩ rfl rfl rfl rfl rfl (by kernel_rfl) Try.func6 (by kernel_rfl)
    (of_decide_eq_true (by kernel_rfl)) (by unfold Func.isWrapper; first | (rw [if_pos (by decide +kernel)]; kernel_rfl) | (rw [if_neg (by decide +kernel)]; exact ⟨rfl, rfl⟩))
    (fun os started H enc _ => nodes.lifted os started H enc)
#print axioms nodes_holds
end Go.Proofs.Ytjfmiomopfjecaa

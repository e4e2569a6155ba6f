/-
  For every net, numbers and text slotskeep.Nodes answers true: inputs are what was asked, and each node does to any two values of any net what the table says (P4).
  Conditions: none; nothing that was in memory is changed.
-/
import Derived.Test.YtjfmiomopfjecaaNodeLaw
import Derived.ProofKit
import Derived.OpenShut
import Derived.ShutString
import Derived.Lib.SmallJoins
namespace Go.Proofs.Ytjfmiomopfjecaa.nodes
open Go.ChangeShapes Go.WideShapes Go.ChangeAt Go.RowKit Go.Joins
open Go.ChangeMaps (open_string shut_string)

theorem own : ownKnob Try.prog.godebug = none := by kernel_rfl
theorem cellsNet : Try.prog.cellsOf 33 = 4 := by kernel_rfl

end Go.Proofs.Ytjfmiomopfjecaa.nodes

namespace Go.Proofs.Ytjfmiomopfjecaa
theorem nodes_holds : Rows.NodesSaid :=
  OpenClaim.holds_of_wide 6 Try.f6 rfl rfl rfl rfl rfl rfl rfl ⟨rfl, rfl, rfl, rfl, rfl⟩ rfl rfl rfl rfl rfl (by kernel_rfl) Try.func6 (by kernel_rfl)
    (of_decide_eq_true (by kernel_rfl)) (by unfold Func.isWrapper; first | (rw [if_pos (by decide +kernel)]; kernel_rfl) | (rw [if_neg (by decide +kernel)]; exact ⟨rfl, rfl⟩))
    (fun os started H enc _ => nodes.lifted os started H enc)
#print axioms nodes_holds
end Go.Proofs.Ytjfmiomopfjecaa

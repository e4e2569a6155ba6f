/-
  No cell of these rows narrows 'for every input' (looked for: loops, veiled, ifaces, maps, wideKeys, modest, calm, conditions, laid).
  DERIVED. THE GIVEN ROWS OF THIS SEAT. 7 by the template 'for every input the law returns true; each argument reads behind the call as it read before'; 0 by the template 'total and deterministic' (their statements: YtjfmiomopfjecabGreatTotals.lean).
  GIVEN WITH THE SEED: the statements are not yours to turn. If you find one false, say at which input.
  Laid BY PROGRAM, IN A SANDBOX (cutbox-rows.mjs): the forced cells as the released guide's own fill.sh prints them over the translation 57595cabddadb93f… (all of the seat's roots in one cut). By AI agents, Wed Nov 11 2026. No macro, syntax, notation, axiom, sorry.
-/
import Derived.Test.YtjfmiomopfjecabGreatChecked
import GoSem.Claim
import GoSem.ClaimJoined
import GoSem.ClaimMapViews
import Derived.JoinedTies
import Derived.KernelRfl
namespace Go.Proofs.YtjfmiomopfjecabGreat
/- THE CELL 'sum', in the pinned program and in every row, IS THE sha256 OF THE DUMP (.gsa) THAT YtjfmiomopfjecabGreatProg.lean LOADS. Nothing in Lean hashes anything: it is a label: what it is worth is what the hold of that sum in a sandbox is worth. -/
noncomputable def Tryz.pinned : Pinned := { name := "ytjfmiomopfjecabgreat", sum := "57595cabddadb93fcac3799372048ccb24076d5e75e01d452a9185f72005877f", checked := Tryz.checked }
namespace Rows
def none {H : Type} : Left H := { results := [], args := [] }

/-- 'slotskeep.Rolled': WHATEVER THE INPUT: true; the input reads as it did. -/
def rolledSpec : ChangeSpec := { name := "rolled", fn := fun _ => fun
  | [d1, d2, d3] => { results := [.lit (.bool true)], args := [d1, d2, d3] }
  | _ => none }
def rolledRow : OpenClaim := { program := "ytjfmiomopfjecabgreat", sum := "57595cabddadb93fcac3799372048ccb24076d5e75e01d452a9185f72005877f", func := "slots/slotskeep.Rolled", spec := "rolled", apart := false }
def RolledSaid : Prop := rolledRow.holds Tryz.pinned (OpenSpec.ofChange rolledSpec)

/-- ITS FALSE NEIGHBOUR: 'it returns false'. Refute it at one input. -/
def rolledWrong : ChangeSpec := { name := "rolled", fn := fun _ => fun
  | [d1, d2, d3] => { results := [.lit (.bool false)], args := [d1, d2, d3] }
  | _ => none }
def RolledWrongFalsely : Prop := rolledRow.holds Tryz.pinned (OpenSpec.ofChange rolledWrong)

/-- 'slotskeep.Tries': WHATEVER THE INPUT: true; the input reads as it did. -/
def triesSpec : ChangeSpec := { name := "tries", fn := fun _ => fun
  | [d1, d2] => { results := [.lit (.bool true)], args := [d1, d2] }
  | _ => none }
def triesRow : OpenClaim := { program := "ytjfmiomopfjecabgreat", sum := "57595cabddadb93fcac3799372048ccb24076d5e75e01d452a9185f72005877f", func := "slots/slotskeep.Tries", spec := "tries", apart := false }
def TriesSaid : Prop := triesRow.holds Tryz.pinned (OpenSpec.ofChange triesSpec)

/-- ITS FALSE NEIGHBOUR: 'it returns false'. Refute it at one input. -/
def triesWrong : ChangeSpec := { name := "tries", fn := fun _ => fun
  | [d1, d2] => { results := [.lit (.bool false)], args := [d1, d2] }
  | _ => none }
def TriesWrongFalsely : Prop := triesRow.holds Tryz.pinned (OpenSpec.ofChange triesWrong)

/-- 'slotskeep.Refused': WHATEVER THE INPUT: true; the input reads as it did. -/
def refusedSpec : ChangeSpec := { name := "refused", fn := fun _ => fun
  | [d1, d2, d3, d4] => { results := [.lit (.bool true)], args := [d1, d2, d3, d4] }
  | _ => none }
def refusedRow : OpenClaim := { program := "ytjfmiomopfjecabgreat", sum := "57595cabddadb93fcac3799372048ccb24076d5e75e01d452a9185f72005877f", func := "slots/slotskeep.Refused", spec := "refused", apart := false }
def RefusedSaid : Prop := refusedRow.holds Tryz.pinned (OpenSpec.ofChange refusedSpec)

/-- ITS FALSE NEIGHBOUR: 'it returns false'. Refute it at one input. -/
def refusedWrong : ChangeSpec := { name := "refused", fn := fun _ => fun
  | [d1, d2, d3, d4] => { results := [.lit (.bool false)], args := [d1, d2, d3, d4] }
  | _ => none }
def RefusedWrongFalsely : Prop := refusedRow.holds Tryz.pinned (OpenSpec.ofChange refusedWrong)

/-- 'slotskeep.Asked': WHATEVER THE INPUT: true; the input reads as it did. -/
def askedSpec : ChangeSpec := { name := "asked", fn := fun _ => fun
  | [d1, d2, d3] => { results := [.lit (.bool true)], args := [d1, d2, d3] }
  | _ => none }
def askedRow : OpenClaim := { program := "ytjfmiomopfjecabgreat", sum := "57595cabddadb93fcac3799372048ccb24076d5e75e01d452a9185f72005877f", func := "slots/slotskeep.Asked", spec := "asked", apart := false }
def AskedSaid : Prop := askedRow.holds Tryz.pinned (OpenSpec.ofChange askedSpec)

/-- ITS FALSE NEIGHBOUR: 'it returns false'. Refute it at one input. -/
def askedWrong : ChangeSpec := { name := "asked", fn := fun _ => fun
  | [d1, d2, d3] => { results := [.lit (.bool false)], args := [d1, d2, d3] }
  | _ => none }
def AskedWrongFalsely : Prop := askedRow.holds Tryz.pinned (OpenSpec.ofChange askedWrong)

/-- 'slotskeep.Resumed': WHATEVER THE INPUT: true; the input reads as it did. -/
def resumedSpec : ChangeSpec := { name := "resumed", fn := fun _ => fun
  | [d1, d2, d3] => { results := [.lit (.bool true)], args := [d1, d2, d3] }
  | _ => none }
def resumedRow : OpenClaim := { program := "ytjfmiomopfjecabgreat", sum := "57595cabddadb93fcac3799372048ccb24076d5e75e01d452a9185f72005877f", func := "slots/slotskeep.Resumed", spec := "resumed", apart := false }
def ResumedSaid : Prop := resumedRow.holds Tryz.pinned (OpenSpec.ofChange resumedSpec)

/-- ITS FALSE NEIGHBOUR: 'it returns false'. Refute it at one input. -/
def resumedWrong : ChangeSpec := { name := "resumed", fn := fun _ => fun
  | [d1, d2, d3] => { results := [.lit (.bool false)], args := [d1, d2, d3] }
  | _ => none }
def ResumedWrongFalsely : Prop := resumedRow.holds Tryz.pinned (OpenSpec.ofChange resumedWrong)

/-- 'slotskeep.Survives': WHATEVER THE INPUT: true; the input reads as it did. -/
def survivesSpec : ChangeSpec := { name := "survives", fn := fun _ => fun
  | [d1, d2, d3] => { results := [.lit (.bool true)], args := [d1, d2, d3] }
  | _ => none }
def survivesRow : OpenClaim := { program := "ytjfmiomopfjecabgreat", sum := "57595cabddadb93fcac3799372048ccb24076d5e75e01d452a9185f72005877f", func := "slots/slotskeep.Survives", spec := "survives", apart := false }
def SurvivesSaid : Prop := survivesRow.holds Tryz.pinned (OpenSpec.ofChange survivesSpec)

/-- ITS FALSE NEIGHBOUR: 'it returns false'. Refute it at one input. -/
def survivesWrong : ChangeSpec := { name := "survives", fn := fun _ => fun
  | [d1, d2, d3] => { results := [.lit (.bool false)], args := [d1, d2, d3] }
  | _ => none }
def SurvivesWrongFalsely : Prop := survivesRow.holds Tryz.pinned (OpenSpec.ofChange survivesWrong)

/-- 'slotslaw.All': WHATEVER THE INPUT: true; the input reads as it did. -/
def allSpec : ChangeSpec := { name := "all", fn := fun _ => fun
  | [d] => { results := [.lit (.bool true)], args := [d] }
  | _ => none }
def allRow : OpenClaim := { program := "ytjfmiomopfjecabgreat", sum := "57595cabddadb93fcac3799372048ccb24076d5e75e01d452a9185f72005877f", func := "slots/slotslaw.All", spec := "all", apart := false }
def AllSaid : Prop := allRow.holds Tryz.pinned (OpenSpec.ofChange allSpec)

/-- ITS FALSE NEIGHBOUR: 'it returns false'. Refute it at one input. -/
def allWrong : ChangeSpec := { name := "all", fn := fun _ => fun
  | [d] => { results := [.lit (.bool false)], args := [d] }
  | _ => none }
def AllWrongFalsely : Prop := allRow.holds Tryz.pinned (OpenSpec.ofChange allWrong)

/- THE SECOND FORM. 'bulk': how many values and letters a reading holds, each counted each time it is reached (what is shared counts as often as it is met; a slice's spare places count too). A statement '..UptoSaid' is the law's where the arguments, and the package variables that the reading takes, are together of bulk at most 1048576: NARROWER than '..Said'. Prove '..Said' where nothing that the law and all that it calls make is longer than what came in: it says more and counts as full. Else prove '..UptoSaid'. A law counts once. -/
mutual
def uptoBulk {H : Type} : DataW H → Nat
  | .lit (.string bytes) => bytes.length + 1
  | .lit _ => 1
  | .nil => 1
  | .ptr d => uptoBulk d + 1
  | .slice elems spare => uptoBulkAll elems + uptoBulkAll spare + 1
  | .agg parts => uptoBulkAll parts + 1
  | .iface _ d => uptoBulk d + 1
  | .map entries => uptoBulkEntries entries + 1
  | .held _ => 1
def uptoBulkAll {H : Type} : List (DataW H) → Nat
  | [] => 0
  | d :: r => uptoBulk d + uptoBulkAll r
def uptoBulkEntries {H : Type} : List (Lit × DataW H) → Nat
  | [] => 0
  | x :: r => uptoBulkEntry x + uptoBulkEntries r
def uptoBulkEntry {H : Type} : Lit × DataW H → Nat
  | (.string bytes, d) => bytes.length + uptoBulk d + 1
  | (_, d) => uptoBulk d + 1
 end
def uptoSmall : (H : Type) → List (DataW H) → Bool := fun _ ds => decide (uptoBulkAll ds ≤ 1048576)
def OpenSpec.upto (s : _root_.Go.ChangeSpec) : _root_.Go.OpenSpec := { _root_.Go.OpenSpec.ofChange s with cond := some uptoSmall }

/-- 'slotskeep.Rolled', WHERE WHAT IT READS IS OF BULK AT MOST 1048576: true; the input reads as it did. -/
def rolledUptoRow : OpenClaim := { program := "ytjfmiomopfjecabgreat", sum := "57595cabddadb93fcac3799372048ccb24076d5e75e01d452a9185f72005877f", func := "slots/slotskeep.Rolled", spec := "rolled", apart := false, narrowed := true }
def RolledUptoSaid : Prop := rolledUptoRow.holds Tryz.pinned (OpenSpec.upto rolledSpec)

/-- 'slotskeep.Tries', WHERE WHAT IT READS IS OF BULK AT MOST 1048576: true; the input reads as it did. -/
def triesUptoRow : OpenClaim := { program := "ytjfmiomopfjecabgreat", sum := "57595cabddadb93fcac3799372048ccb24076d5e75e01d452a9185f72005877f", func := "slots/slotskeep.Tries", spec := "tries", apart := false, narrowed := true }
def TriesUptoSaid : Prop := triesUptoRow.holds Tryz.pinned (OpenSpec.upto triesSpec)

/-- 'slotskeep.Refused', WHERE WHAT IT READS IS OF BULK AT MOST 1048576: true; the input reads as it did. -/
def refusedUptoRow : OpenClaim := { program := "ytjfmiomopfjecabgreat", sum := "57595cabddadb93fcac3799372048ccb24076d5e75e01d452a9185f72005877f", func := "slots/slotskeep.Refused", spec := "refused", apart := false, narrowed := true }
def RefusedUptoSaid : Prop := refusedUptoRow.holds Tryz.pinned (OpenSpec.upto refusedSpec)

/-- 'slotskeep.Asked', WHERE WHAT IT READS IS OF BULK AT MOST 1048576: true; the input reads as it did. -/
def askedUptoRow : OpenClaim := { program := "ytjfmiomopfjecabgreat", sum := "57595cabddadb93fcac3799372048ccb24076d5e75e01d452a9185f72005877f", func := "slots/slotskeep.Asked", spec := "asked", apart := false, narrowed := true }
def AskedUptoSaid : Prop := askedUptoRow.holds Tryz.pinned (OpenSpec.upto askedSpec)

/-- 'slotskeep.Resumed', WHERE WHAT IT READS IS OF BULK AT MOST 1048576: true; the input reads as it did. -/
def resumedUptoRow : OpenClaim := { program := "ytjfmiomopfjecabgreat", sum := "57595cabddadb93fcac3799372048ccb24076d5e75e01d452a9185f72005877f", func := "slots/slotskeep.Resumed", spec := "resumed", apart := false, narrowed := true }
def ResumedUptoSaid : Prop := resumedUptoRow.holds Tryz.pinned (OpenSpec.upto resumedSpec)

/-- 'slotskeep.Survives', WHERE WHAT IT READS IS OF BULK AT MOST 1048576: true; the input reads as it did. -/
def survivesUptoRow : OpenClaim := { program := "ytjfmiomopfjecabgreat", sum := "57595cabddadb93fcac3799372048ccb24076d5e75e01d452a9185f72005877f", func := "slots/slotskeep.Survives", spec := "survives", apart := false, narrowed := true }
def SurvivesUptoSaid : Prop := survivesUptoRow.holds Tryz.pinned (OpenSpec.upto survivesSpec)

/-- 'slotslaw.All', WHERE WHAT IT READS IS OF BULK AT MOST 1048576: true; the input reads as it did. -/
def allUptoRow : OpenClaim := { program := "ytjfmiomopfjecabgreat", sum := "57595cabddadb93fcac3799372048ccb24076d5e75e01d452a9185f72005877f", func := "slots/slotslaw.All", spec := "all", apart := false, narrowed := true }
def AllUptoSaid : Prop := allUptoRow.holds Tryz.pinned (OpenSpec.upto allSpec)

end Rows
end Go.Proofs.YtjfmiomopfjecabGreat

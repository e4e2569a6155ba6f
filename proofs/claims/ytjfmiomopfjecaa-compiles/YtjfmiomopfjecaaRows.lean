/-
  No cell of these rows narrows 'for every input' (looked for: loops, veiled, ifaces, maps, wideKeys, modest, calm, conditions, laid).
  DERIVED. THE GIVEN ROWS OF THIS SEAT. 9 by the template 'for every input the law returns true; each argument reads behind the call as it read before'; 0 by the template 'total and deterministic' (their statements: YtjfmiomopfjecaaTotals.lean).
  GIVEN WITH THE SEED: the statements are not yours to turn. If you find one false, say at which input.
  Laid BY PROGRAM, IN A SANDBOX (cutbox-rows.mjs): the forced cells as the released guide's own fill.sh prints them over the translation c4e80abf45abac5e… (all of the seat's roots in one cut). By AI agents, Wed Nov 11 2026. No macro, syntax, notation, axiom, sorry.
-/
import Derived.Test.YtjfmiomopfjecaaChecked
import GoSem.Claim
import GoSem.ClaimJoined
import GoSem.ClaimMapViews
import Derived.JoinedTies
import Derived.KernelRfl
namespace Go.Proofs.Ytjfmiomopfjecaa
/- THE CELL 'sum', in the pinned program and in every row, IS THE sha256 OF THE DUMP (.gsa) THAT YtjfmiomopfjecaaProg.lean LOADS. Nothing in Lean hashes anything: it is a label: what it is worth is what the hold of that sum in a sandbox is worth. -/
noncomputable def Try.pinned : Pinned := { name := "ytjfmiomopfjecaa", sum := "c4e80abf45abac5ee08c7dadaa57f3e941a640602a464b59da290efa41986794", checked := Try.checked }
namespace Rows
def none {H : Type} : Left H := { results := [], args := [] }

/-- 'slotslaw.Sums': WHATEVER THE INPUT: true; the input reads as it did. -/
def sumsSpec : ChangeSpec := { name := "sums", fn := fun _ => fun
  | [d] => { results := [.lit (.bool true)], args := [d] }
  | _ => none }
def sumsRow : OpenClaim := { program := "ytjfmiomopfjecaa", sum := "c4e80abf45abac5ee08c7dadaa57f3e941a640602a464b59da290efa41986794", func := "slots/slotslaw.Sums", spec := "sums", apart := false }
def SumsSaid : Prop := sumsRow.holds Try.pinned (OpenSpec.ofChange sumsSpec)

/-- ITS FALSE NEIGHBOUR: 'it returns false'. Refute it at one input. -/
def sumsWrong : ChangeSpec := { name := "sums", fn := fun _ => fun
  | [d] => { results := [.lit (.bool false)], args := [d] }
  | _ => none }
def SumsWrongFalsely : Prop := sumsRow.holds Try.pinned (OpenSpec.ofChange sumsWrong)

/-- 'slotslaw.Evals': WHATEVER THE INPUT: true; the input reads as it did. -/
def evalsSpec : ChangeSpec := { name := "evals", fn := fun _ => fun
  | [d1, d2] => { results := [.lit (.bool true)], args := [d1, d2] }
  | _ => none }
def evalsRow : OpenClaim := { program := "ytjfmiomopfjecaa", sum := "c4e80abf45abac5ee08c7dadaa57f3e941a640602a464b59da290efa41986794", func := "slots/slotslaw.Evals", spec := "evals", apart := false }
def EvalsSaid : Prop := evalsRow.holds Try.pinned (OpenSpec.ofChange evalsSpec)

/-- ITS FALSE NEIGHBOUR: 'it returns false'. Refute it at one input. -/
def evalsWrong : ChangeSpec := { name := "evals", fn := fun _ => fun
  | [d1, d2] => { results := [.lit (.bool false)], args := [d1, d2] }
  | _ => none }
def EvalsWrongFalsely : Prop := evalsRow.holds Try.pinned (OpenSpec.ofChange evalsWrong)

/-- 'slotslaw.Execs': WHATEVER THE INPUT: true; the input reads as it did. -/
def execsSpec : ChangeSpec := { name := "execs", fn := fun _ => fun
  | [d1, d2] => { results := [.lit (.bool true)], args := [d1, d2] }
  | _ => none }
def execsRow : OpenClaim := { program := "ytjfmiomopfjecaa", sum := "c4e80abf45abac5ee08c7dadaa57f3e941a640602a464b59da290efa41986794", func := "slots/slotslaw.Execs", spec := "execs", apart := false }
def ExecsSaid : Prop := execsRow.holds Try.pinned (OpenSpec.ofChange execsSpec)

/-- ITS FALSE NEIGHBOUR: 'it returns false'. Refute it at one input. -/
def execsWrong : ChangeSpec := { name := "execs", fn := fun _ => fun
  | [d1, d2] => { results := [.lit (.bool false)], args := [d1, d2] }
  | _ => none }
def ExecsWrongFalsely : Prop := execsRow.holds Try.pinned (OpenSpec.ofChange execsWrong)

/-- 'slotskeep.Nodes': WHATEVER THE INPUT: true; the input reads as it did. -/
def nodesSpec : ChangeSpec := { name := "nodes", fn := fun _ => fun
  | [d1, d2, d3, d4, d5] => { results := [.lit (.bool true)], args := [d1, d2, d3, d4, d5] }
  | _ => none }
def nodesRow : OpenClaim := { program := "ytjfmiomopfjecaa", sum := "c4e80abf45abac5ee08c7dadaa57f3e941a640602a464b59da290efa41986794", func := "slots/slotskeep.Nodes", spec := "nodes", apart := false }
def NodesSaid : Prop := nodesRow.holds Try.pinned (OpenSpec.ofChange nodesSpec)

/-- ITS FALSE NEIGHBOUR: 'it returns false'. Refute it at one input. -/
def nodesWrong : ChangeSpec := { name := "nodes", fn := fun _ => fun
  | [d1, d2, d3, d4, d5] => { results := [.lit (.bool false)], args := [d1, d2, d3, d4, d5] }
  | _ => none }
def NodesWrongFalsely : Prop := nodesRow.holds Try.pinned (OpenSpec.ofChange nodesWrong)

/-- 'slotslaw.Compiles': WHATEVER THE INPUT: true; the input reads as it did. -/
def compilesSpec : ChangeSpec := { name := "compiles", fn := fun _ => fun
  | [d1, d2] => { results := [.lit (.bool true)], args := [d1, d2] }
  | _ => none }
def compilesRow : OpenClaim := { program := "ytjfmiomopfjecaa", sum := "c4e80abf45abac5ee08c7dadaa57f3e941a640602a464b59da290efa41986794", func := "slots/slotslaw.Compiles", spec := "compiles", apart := false }
def CompilesSaid : Prop := compilesRow.holds Try.pinned (OpenSpec.ofChange compilesSpec)

/-- ITS FALSE NEIGHBOUR: 'it returns false'. Refute it at one input. -/
def compilesWrong : ChangeSpec := { name := "compiles", fn := fun _ => fun
  | [d1, d2] => { results := [.lit (.bool false)], args := [d1, d2] }
  | _ => none }
def CompilesWrongFalsely : Prop := compilesRow.holds Try.pinned (OpenSpec.ofChange compilesWrong)

/-- 'slotskeep.Meant': WHATEVER THE INPUT: true; the input reads as it did. -/
def meantSpec : ChangeSpec := { name := "meant", fn := fun _ => fun
  | [d1, d2] => { results := [.lit (.bool true)], args := [d1, d2] }
  | _ => none }
def meantRow : OpenClaim := { program := "ytjfmiomopfjecaa", sum := "c4e80abf45abac5ee08c7dadaa57f3e941a640602a464b59da290efa41986794", func := "slots/slotskeep.Meant", spec := "meant", apart := false }
def MeantSaid : Prop := meantRow.holds Try.pinned (OpenSpec.ofChange meantSpec)

/-- ITS FALSE NEIGHBOUR: 'it returns false'. Refute it at one input. -/
def meantWrong : ChangeSpec := { name := "meant", fn := fun _ => fun
  | [d1, d2] => { results := [.lit (.bool false)], args := [d1, d2] }
  | _ => none }
def MeantWrongFalsely : Prop := meantRow.holds Try.pinned (OpenSpec.ofChange meantWrong)

/-- 'slotslaw.Patches': WHATEVER THE INPUT: true; the input reads as it did. -/
def patchesSpec : ChangeSpec := { name := "patches", fn := fun _ => fun
  | [d1, d2, d3] => { results := [.lit (.bool true)], args := [d1, d2, d3] }
  | _ => none }
def patchesRow : OpenClaim := { program := "ytjfmiomopfjecaa", sum := "c4e80abf45abac5ee08c7dadaa57f3e941a640602a464b59da290efa41986794", func := "slots/slotslaw.Patches", spec := "patches", apart := false }
def PatchesSaid : Prop := patchesRow.holds Try.pinned (OpenSpec.ofChange patchesSpec)

/-- ITS FALSE NEIGHBOUR: 'it returns false'. Refute it at one input. -/
def patchesWrong : ChangeSpec := { name := "patches", fn := fun _ => fun
  | [d1, d2, d3] => { results := [.lit (.bool false)], args := [d1, d2, d3] }
  | _ => none }
def PatchesWrongFalsely : Prop := patchesRow.holds Try.pinned (OpenSpec.ofChange patchesWrong)

/-- 'slotslaw.Diffs': WHATEVER THE INPUT: true; the input reads as it did. -/
def diffsSpec : ChangeSpec := { name := "diffs", fn := fun _ => fun
  | [d1, d2] => { results := [.lit (.bool true)], args := [d1, d2] }
  | _ => none }
def diffsRow : OpenClaim := { program := "ytjfmiomopfjecaa", sum := "c4e80abf45abac5ee08c7dadaa57f3e941a640602a464b59da290efa41986794", func := "slots/slotslaw.Diffs", spec := "diffs", apart := false }
def DiffsSaid : Prop := diffsRow.holds Try.pinned (OpenSpec.ofChange diffsSpec)

/-- ITS FALSE NEIGHBOUR: 'it returns false'. Refute it at one input. -/
def diffsWrong : ChangeSpec := { name := "diffs", fn := fun _ => fun
  | [d1, d2] => { results := [.lit (.bool false)], args := [d1, d2] }
  | _ => none }
def DiffsWrongFalsely : Prop := diffsRow.holds Try.pinned (OpenSpec.ofChange diffsWrong)

/-- 'slotskeep.Again': WHATEVER THE INPUT: true; the input reads as it did. -/
def againSpec : ChangeSpec := { name := "again", fn := fun _ => fun
  | [d1, d2] => { results := [.lit (.bool true)], args := [d1, d2] }
  | _ => none }
def againRow : OpenClaim := { program := "ytjfmiomopfjecaa", sum := "c4e80abf45abac5ee08c7dadaa57f3e941a640602a464b59da290efa41986794", func := "slots/slotskeep.Again", spec := "again", apart := false }
def AgainSaid : Prop := againRow.holds Try.pinned (OpenSpec.ofChange againSpec)

/-- ITS FALSE NEIGHBOUR: 'it returns false'. Refute it at one input. -/
def againWrong : ChangeSpec := { name := "again", fn := fun _ => fun
  | [d1, d2] => { results := [.lit (.bool false)], args := [d1, d2] }
  | _ => none }
def AgainWrongFalsely : Prop := againRow.holds Try.pinned (OpenSpec.ofChange againWrong)

/- THE SECOND FORM. 'bulk': how many values and letters a reading holds, each counted each time it is reached (what is shared counts as often as it is met; a slice's spare places count too). A statement '..UptoSaid' is the law's where the arguments, and the package variables that the reading takes, are together of bulk at most 1048576: NARROWER than '..Said'. Prove '..Said' where nothing that the law and all that it calls make is longer than what came in: it says more and counts as full. Else prove '..UptoSaid'. A law counts once. -/
mutual
def uptoBulk {H : Type} : DataW H → Nat
  | .lit (.string bytes) => bytes.length + 1
  | .lit _ => 1
  | .nil => 1
  | .ptr d => uptoBulk d + 1
  | .slice elems spare => uptoBulkAll elems + uptoBulkAll spare + 1
  | .agg parts => uptoBulkAll parts + 1
  | .iface _ d => uptoBulk d + 1
  | .map entries => uptoBulkEntries entries + 1
  | .held _ => 1
def uptoBulkAll {H : Type} : List (DataW H) → Nat
  | [] => 0
  | d :: r => uptoBulk d + uptoBulkAll r
def uptoBulkEntries {H : Type} : List (Lit × DataW H) → Nat
  | [] => 0
  | x :: r => uptoBulkEntry x + uptoBulkEntries r
def uptoBulkEntry {H : Type} : Lit × DataW H → Nat
  | (.string bytes, d) => bytes.length + uptoBulk d + 1
  | (_, d) => uptoBulk d + 1
 end
def uptoSmall : (H : Type) → List (DataW H) → Bool := fun _ ds => decide (uptoBulkAll ds ≤ 1048576)
def OpenSpec.upto (s : _root_.Go.ChangeSpec) : _root_.Go.OpenSpec := { _root_.Go.OpenSpec.ofChange s with cond := some uptoSmall }

/-- 'slotslaw.Sums', WHERE WHAT IT READS IS OF BULK AT MOST 1048576: true; the input reads as it did. -/
def sumsUptoRow : OpenClaim := { program := "ytjfmiomopfjecaa", sum := "c4e80abf45abac5ee08c7dadaa57f3e941a640602a464b59da290efa41986794", func := "slots/slotslaw.Sums", spec := "sums", apart := false, narrowed := true }
def SumsUptoSaid : Prop := sumsUptoRow.holds Try.pinned (OpenSpec.upto sumsSpec)

/-- 'slotslaw.Evals', WHERE WHAT IT READS IS OF BULK AT MOST 1048576: true; the input reads as it did. -/
def evalsUptoRow : OpenClaim := { program := "ytjfmiomopfjecaa", sum := "c4e80abf45abac5ee08c7dadaa57f3e941a640602a464b59da290efa41986794", func := "slots/slotslaw.Evals", spec := "evals", apart := false, narrowed := true }
def EvalsUptoSaid : Prop := evalsUptoRow.holds Try.pinned (OpenSpec.upto evalsSpec)

/-- 'slotslaw.Execs', WHERE WHAT IT READS IS OF BULK AT MOST 1048576: true; the input reads as it did. -/
def execsUptoRow : OpenClaim := { program := "ytjfmiomopfjecaa", sum := "c4e80abf45abac5ee08c7dadaa57f3e941a640602a464b59da290efa41986794", func := "slots/slotslaw.Execs", spec := "execs", apart := false, narrowed := true }
def ExecsUptoSaid : Prop := execsUptoRow.holds Try.pinned (OpenSpec.upto execsSpec)

/-- 'slotskeep.Nodes', WHERE WHAT IT READS IS OF BULK AT MOST 1048576: true; the input reads as it did. -/
def nodesUptoRow : OpenClaim := { program := "ytjfmiomopfjecaa", sum := "c4e80abf45abac5ee08c7dadaa57f3e941a640602a464b59da290efa41986794", func := "slots/slotskeep.Nodes", spec := "nodes", apart := false, narrowed := true }
def NodesUptoSaid : Prop := nodesUptoRow.holds Try.pinned (OpenSpec.upto nodesSpec)

/-- 'slotslaw.Compiles', WHERE WHAT IT READS IS OF BULK AT MOST 1048576: true; the input reads as it did. -/
def compilesUptoRow : OpenClaim := { program := "ytjfmiomopfjecaa", sum := "c4e80abf45abac5ee08c7dadaa57f3e941a640602a464b59da290efa41986794", func := "slots/slotslaw.Compiles", spec := "compiles", apart := false, narrowed := true }
def CompilesUptoSaid : Prop := compilesUptoRow.holds Try.pinned (OpenSpec.upto compilesSpec)

/-- 'slotskeep.Meant', WHERE WHAT IT READS IS OF BULK AT MOST 1048576: true; the input reads as it did. -/
def meantUptoRow : OpenClaim := { program := "ytjfmiomopfjecaa", sum := "c4e80abf45abac5ee08c7dadaa57f3e941a640602a464b59da290efa41986794", func := "slots/slotskeep.Meant", spec := "meant", apart := false, narrowed := true }
def MeantUptoSaid : Prop := meantUptoRow.holds Try.pinned (OpenSpec.upto meantSpec)

/-- 'slotslaw.Patches', WHERE WHAT IT READS IS OF BULK AT MOST 1048576: true; the input reads as it did. -/
def patchesUptoRow : OpenClaim := { program := "ytjfmiomopfjecaa", sum := "c4e80abf45abac5ee08c7dadaa57f3e941a640602a464b59da290efa41986794", func := "slots/slotslaw.Patches", spec := "patches", apart := false, narrowed := true }
def PatchesUptoSaid : Prop := patchesUptoRow.holds Try.pinned (OpenSpec.upto patchesSpec)

/-- 'slotslaw.Diffs', WHERE WHAT IT READS IS OF BULK AT MOST 1048576: true; the input reads as it did. -/
def diffsUptoRow : OpenClaim := { program := "ytjfmiomopfjecaa", sum := "c4e80abf45abac5ee08c7dadaa57f3e941a640602a464b59da290efa41986794", func := "slots/slotslaw.Diffs", spec := "diffs", apart := false, narrowed := true }
def DiffsUptoSaid : Prop := diffsUptoRow.holds Try.pinned (OpenSpec.upto diffsSpec)

/-- 'slotskeep.Again', WHERE WHAT IT READS IS OF BULK AT MOST 1048576: true; the input reads as it did. -/
def againUptoRow : OpenClaim := { program := "ytjfmiomopfjecaa", sum := "c4e80abf45abac5ee08c7dadaa57f3e941a640602a464b59da290efa41986794", func := "slots/slotskeep.Again", spec := "again", apart := false, narrowed := true }
def AgainUptoSaid : Prop := againUptoRow.holds Try.pinned (OpenSpec.upto againSpec)

end Rows
end Go.Proofs.Ytjfmiomopfjecaa

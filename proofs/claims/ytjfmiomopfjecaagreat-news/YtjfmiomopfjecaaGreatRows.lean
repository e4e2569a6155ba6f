/-
  No cell of these rows narrows 'for every input' (looked for: loops, veiled, ifaces, maps, wideKeys, modest, calm, conditions, laid).
  DERIVED. THE GIVEN ROWS OF THIS SEAT. 3 by the template 'for every input the law returns true; each argument reads behind the call as it read before'; 0 by the template 'total and deterministic' (their statements: YtjfmiomopfjecaaGreatTotals.lean).
  GIVEN WITH THE SEED: the statements are not yours to turn. If you find one false, say at which input.
  Laid BY PROGRAM, IN A SANDBOX (cutbox-rows.mjs): the forced cells as the released guide's own fill.sh prints them over the translation ca1dd3f65366e280… (all of the seat's roots in one cut). By AI agents, Wed Nov 11 2026. No macro, syntax, notation, axiom, sorry.
-/
import Derived.Test.YtjfmiomopfjecaaGreatChecked
import GoSem.Claim
import GoSem.ClaimJoined
import GoSem.ClaimMapViews
import Derived.JoinedTies
import Derived.KernelRfl
namespace Go.Proofs.YtjfmiomopfjecaaGreat
/- THE CELL 'sum', in the pinned program and in every row, IS THE sha256 OF THE DUMP (.gsa) THAT YtjfmiomopfjecaaGreatProg.lean LOADS. Nothing in Lean hashes anything: it is a label: what it is worth is what the hold of that sum in a sandbox is worth. -/
noncomputable def Tryz.pinned : Pinned := { name := "ytjfmiomopfjecaagreat", sum := "ca1dd3f65366e280954e2686d286f9f0a699ce40a67981d730772b2323b9bbba", checked := Tryz.checked }
namespace Rows
def none {H : Type} : Left H := { results := [], args := [] }

/-- 'slotslaw.News': WHATEVER THE INPUT: true; the input reads as it did. -/
def newsSpec : ChangeSpec := { name := "news", fn := fun _ => fun
  | [d1, d2, d3] => { results := [.lit (.bool true)], args := [d1, d2, d3] }
  | _ => none }
def newsRow : OpenClaim := { program := "ytjfmiomopfjecaagreat", sum := "ca1dd3f65366e280954e2686d286f9f0a699ce40a67981d730772b2323b9bbba", func := "slots/slotslaw.News", spec := "news", apart := false }
def NewsSaid : Prop := newsRow.holds Tryz.pinned (OpenSpec.ofChange newsSpec)

/-- ITS FALSE NEIGHBOUR: 'it returns false'. Refute it at one input. -/
def newsWrong : ChangeSpec := { name := "news", fn := fun _ => fun
  | [d1, d2, d3] => { results := [.lit (.bool false)], args := [d1, d2, d3] }
  | _ => none }
def NewsWrongFalsely : Prop := newsRow.holds Tryz.pinned (OpenSpec.ofChange newsWrong)

/-- 'slotslaw.Events': WHATEVER THE INPUT: true; the input reads as it did. -/
def eventsSpec : ChangeSpec := { name := "events", fn := fun _ => fun
  | [d] => { results := [.lit (.bool true)], args := [d] }
  | _ => none }
def eventsRow : OpenClaim := { program := "ytjfmiomopfjecaagreat", sum := "ca1dd3f65366e280954e2686d286f9f0a699ce40a67981d730772b2323b9bbba", func := "slots/slotslaw.Events", spec := "events", apart := false }
def EventsSaid : Prop := eventsRow.holds Tryz.pinned (OpenSpec.ofChange eventsSpec)

/-- ITS FALSE NEIGHBOUR: 'it returns false'. Refute it at one input. -/
def eventsWrong : ChangeSpec := { name := "events", fn := fun _ => fun
  | [d] => { results := [.lit (.bool false)], args := [d] }
  | _ => none }
def EventsWrongFalsely : Prop := eventsRow.holds Tryz.pinned (OpenSpec.ofChange eventsWrong)

/-- 'slotskeep.Updated': WHATEVER THE INPUT: true; the input reads as it did. -/
def updatedSpec : ChangeSpec := { name := "updated", fn := fun _ => fun
  | [d1, d2, d3] => { results := [.lit (.bool true)], args := [d1, d2, d3] }
  | _ => none }
def updatedRow : OpenClaim := { program := "ytjfmiomopfjecaagreat", sum := "ca1dd3f65366e280954e2686d286f9f0a699ce40a67981d730772b2323b9bbba", func := "slots/slotskeep.Updated", spec := "updated", apart := false }
def UpdatedSaid : Prop := updatedRow.holds Tryz.pinned (OpenSpec.ofChange updatedSpec)

/-- ITS FALSE NEIGHBOUR: 'it returns false'. Refute it at one input. -/
def updatedWrong : ChangeSpec := { name := "updated", fn := fun _ => fun
  | [d1, d2, d3] => { results := [.lit (.bool false)], args := [d1, d2, d3] }
  | _ => none }
def UpdatedWrongFalsely : Prop := updatedRow.holds Tryz.pinned (OpenSpec.ofChange updatedWrong)

/- THE SECOND FORM. 'bulk': how many values and letters a reading holds, each counted each time it is reached (what is shared counts as often as it is met; a slice's spare places count too). A statement '..UptoSaid' is the law's where the arguments, and the package variables that the reading takes, are together of bulk at most 1048576: NARROWER than '..Said'. Prove '..Said' where nothing that the law and all that it calls make is longer than what came in: it says more and counts as full. Else prove '..UptoSaid'. A law counts once. -/
mutual
def uptoBulk {H : Type} : DataW H → Nat
  | .lit (.string bytes) => bytes.length + 1
  | .lit _ => 1
  | .nil => 1
  | .ptr d => uptoBulk d + 1
  | .slice elems spare => uptoBulkAll elems + uptoBulkAll spare + 1
  | .agg parts => uptoBulkAll parts + 1
  | .iface _ d => uptoBulk d + 1
  | .map entries => uptoBulkEntries entries + 1
  | .held _ => 1
def uptoBulkAll {H : Type} : List (DataW H) → Nat
  | [] => 0
  | d :: r => uptoBulk d + uptoBulkAll r
def uptoBulkEntries {H : Type} : List (Lit × DataW H) → Nat
  | [] => 0
  | x :: r => uptoBulkEntry x + uptoBulkEntries r
def uptoBulkEntry {H : Type} : Lit × DataW H → Nat
  | (.string bytes, d) => bytes.length + uptoBulk d + 1
  | (_, d) => uptoBulk d + 1
 end
def uptoSmall : (H : Type) → List (DataW H) → Bool := fun _ ds => decide (uptoBulkAll ds ≤ 1048576)
def OpenSpec.upto (s : _root_.Go.ChangeSpec) : _root_.Go.OpenSpec := { _root_.Go.OpenSpec.ofChange s with cond := some uptoSmall }

/-- 'slotslaw.News', WHERE WHAT IT READS IS OF BULK AT MOST 1048576: true; the input reads as it did. -/
def newsUptoRow : OpenClaim := { program := "ytjfmiomopfjecaagreat", sum := "ca1dd3f65366e280954e2686d286f9f0a699ce40a67981d730772b2323b9bbba", func := "slots/slotslaw.News", spec := "news", apart := false, narrowed := true }
def NewsUptoSaid : Prop := newsUptoRow.holds Tryz.pinned (OpenSpec.upto newsSpec)

/-- 'slotslaw.Events', WHERE WHAT IT READS IS OF BULK AT MOST 1048576: true; the input reads as it did. -/
def eventsUptoRow : OpenClaim := { program := "ytjfmiomopfjecaagreat", sum := "ca1dd3f65366e280954e2686d286f9f0a699ce40a67981d730772b2323b9bbba", func := "slots/slotslaw.Events", spec := "events", apart := false, narrowed := true }
def EventsUptoSaid : Prop := eventsUptoRow.holds Tryz.pinned (OpenSpec.upto eventsSpec)

/-- 'slotskeep.Updated', WHERE WHAT IT READS IS OF BULK AT MOST 1048576: true; the input reads as it did. -/
def updatedUptoRow : OpenClaim := { program := "ytjfmiomopfjecaagreat", sum := "ca1dd3f65366e280954e2686d286f9f0a699ce40a67981d730772b2323b9bbba", func := "slots/slotskeep.Updated", spec := "updated", apart := false, narrowed := true }
def UpdatedUptoSaid : Prop := updatedUptoRow.holds Tryz.pinned (OpenSpec.upto updatedSpec)

end Rows
end Go.Proofs.YtjfmiomopfjecaaGreat

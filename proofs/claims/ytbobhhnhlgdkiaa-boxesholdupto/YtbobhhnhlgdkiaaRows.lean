/-
  No cell of these rows narrows 'for every input' (looked for: loops, veiled, ifaces, maps, wideKeys, modest, calm, conditions, laid).
  DERIVED. THE GIVEN ROWS OF THIS SEAT. 3 by the template 'for every input the law returns true; each argument reads behind the call as it read before'; 0 by the template 'total and deterministic' (their statements: YtbobhhnhlgdkiaaTotals.lean).
  GIVEN WITH THE SEED: the statements are not yours to turn. If you find one false, say at which input.
  Laid BY PROGRAM, IN A SANDBOX (cutbox-rows.mjs): the forced cells as the released guide's own fill.sh prints them over the translation 022d5d7af1b79582… (all of the seat's roots in one cut). By AI agents, Wed Nov 11 2026. No macro, syntax, notation, axiom, sorry.
-/
import Derived.Test.YtbobhhnhlgdkiaaChecked
import GoSem.Claim
import GoSem.ClaimJoined
import GoSem.ClaimMapViews
import Derived.JoinedTies
import Derived.KernelRfl
namespace Go.Proofs.Ytbobhhnhlgdkiaa
/- THE CELL 'sum', in the pinned program and in every row, IS THE sha256 OF THE DUMP (.gsa) THAT YtbobhhnhlgdkiaaProg.lean LOADS. Nothing in Lean hashes anything: it is a label: what it is worth is what the hold of that sum in a sandbox is worth. -/
noncomputable def Try.pinned : Pinned := { name := "ytbobhhnhlgdkiaa", sum := "022d5d7af1b7958200fbd69dadc8e94cb27544326f65663f7813de2a388ffb57", checked := Try.checked }
namespace Rows
def none {H : Type} : Left H := { results := [], args := [] }

/-- 'penumbralaw10.BoxesLay': WHATEVER THE INPUT: true; the input reads as it did. -/
def boxesLaySpec : ChangeSpec := { name := "boxesLay", fn := fun _ => fun
  | [d1, d2] => { results := [.lit (.bool true)], args := [d1, d2] }
  | _ => none }
def boxesLayRow : OpenClaim := { program := "ytbobhhnhlgdkiaa", sum := "022d5d7af1b7958200fbd69dadc8e94cb27544326f65663f7813de2a388ffb57", func := "penumbra/penumbralaw10.BoxesLay", spec := "boxesLay", recurses := true, apart := false }
def BoxesLaySaid : Prop := boxesLayRow.holds Try.pinned (OpenSpec.ofChange boxesLaySpec)

/-- ITS FALSE NEIGHBOUR: 'it returns false'. Refute it at one input. -/
def boxesLayWrong : ChangeSpec := { name := "boxesLay", fn := fun _ => fun
  | [d1, d2] => { results := [.lit (.bool false)], args := [d1, d2] }
  | _ => none }
def BoxesLayWrongFalsely : Prop := boxesLayRow.holds Try.pinned (OpenSpec.ofChange boxesLayWrong)

/-- 'penumbralaw10.BoxesWithin': WHATEVER THE INPUT: true; the input reads as it did. -/
def boxesWithinSpec : ChangeSpec := { name := "boxesWithin", fn := fun _ => fun
  | [d1, d2, d3] => { results := [.lit (.bool true)], args := [d1, d2, d3] }
  | _ => none }
def boxesWithinRow : OpenClaim := { program := "ytbobhhnhlgdkiaa", sum := "022d5d7af1b7958200fbd69dadc8e94cb27544326f65663f7813de2a388ffb57", func := "penumbra/penumbralaw10.BoxesWithin", spec := "boxesWithin", recurses := true, apart := false }
def BoxesWithinSaid : Prop := boxesWithinRow.holds Try.pinned (OpenSpec.ofChange boxesWithinSpec)

/-- ITS FALSE NEIGHBOUR: 'it returns false'. Refute it at one input. -/
def boxesWithinWrong : ChangeSpec := { name := "boxesWithin", fn := fun _ => fun
  | [d1, d2, d3] => { results := [.lit (.bool false)], args := [d1, d2, d3] }
  | _ => none }
def BoxesWithinWrongFalsely : Prop := boxesWithinRow.holds Try.pinned (OpenSpec.ofChange boxesWithinWrong)

/-- 'penumbralaw10.BoxesHold': WHATEVER THE INPUT: true; the input reads as it did. -/
def boxesHoldSpec : ChangeSpec := { name := "boxesHold", fn := fun _ => fun
  | [d1, d2] => { results := [.lit (.bool true)], args := [d1, d2] }
  | _ => none }
def boxesHoldRow : OpenClaim := { program := "ytbobhhnhlgdkiaa", sum := "022d5d7af1b7958200fbd69dadc8e94cb27544326f65663f7813de2a388ffb57", func := "penumbra/penumbralaw10.BoxesHold", spec := "boxesHold", recurses := true, apart := false }
def BoxesHoldSaid : Prop := boxesHoldRow.holds Try.pinned (OpenSpec.ofChange boxesHoldSpec)

/-- ITS FALSE NEIGHBOUR: 'it returns false'. Refute it at one input. -/
def boxesHoldWrong : ChangeSpec := { name := "boxesHold", fn := fun _ => fun
  | [d1, d2] => { results := [.lit (.bool false)], args := [d1, d2] }
  | _ => none }
def BoxesHoldWrongFalsely : Prop := boxesHoldRow.holds Try.pinned (OpenSpec.ofChange boxesHoldWrong)

/- THE SECOND FORM. 'bulk': how many values and letters a reading holds, each counted each time it is reached (what is shared counts as often as it is met; a slice's spare places count too). A statement '..UptoSaid' is the law's where the arguments, and the package variables that the reading takes, are together of bulk at most 1048576: NARROWER than '..Said'. Prove '..Said' where nothing that the law and all that it calls make is longer than what came in: it says more and counts as full. Else prove '..UptoSaid'. A law counts once. -/
mutual
def uptoBulk {H : Type} : DataW H → Nat
  | .lit (.string bytes) => bytes.length + 1
  | .lit _ => 1
  | .nil => 1
  | .ptr d => uptoBulk d + 1
  | .slice elems spare => uptoBulkAll elems + uptoBulkAll spare + 1
  | .agg parts => uptoBulkAll parts + 1
  | .iface _ d => uptoBulk d + 1
  | .map entries => uptoBulkEntries entries + 1
  | .held _ => 1
def uptoBulkAll {H : Type} : List (DataW H) → Nat
  | [] => 0
  | d :: r => uptoBulk d + uptoBulkAll r
def uptoBulkEntries {H : Type} : List (Lit × DataW H) → Nat
  | [] => 0
  | x :: r => uptoBulkEntry x + uptoBulkEntries r
def uptoBulkEntry {H : Type} : Lit × DataW H → Nat
  | (.string bytes, d) => bytes.length + uptoBulk d + 1
  | (_, d) => uptoBulk d + 1
 end
def uptoSmall : (H : Type) → List (DataW H) → Bool := fun _ ds => decide (uptoBulkAll ds ≤ 1048576)
def OpenSpec.upto (s : _root_.Go.ChangeSpec) : _root_.Go.OpenSpec := { _root_.Go.OpenSpec.ofChange s with cond := some uptoSmall }

/-- 'penumbralaw10.BoxesLay', WHERE WHAT IT READS IS OF BULK AT MOST 1048576: true; the input reads as it did. -/
def boxesLayUptoRow : OpenClaim := { program := "ytbobhhnhlgdkiaa", sum := "022d5d7af1b7958200fbd69dadc8e94cb27544326f65663f7813de2a388ffb57", func := "penumbra/penumbralaw10.BoxesLay", spec := "boxesLay", recurses := true, apart := false, narrowed := true }
def BoxesLayUptoSaid : Prop := boxesLayUptoRow.holds Try.pinned (OpenSpec.upto boxesLaySpec)

/-- 'penumbralaw10.BoxesWithin', WHERE WHAT IT READS IS OF BULK AT MOST 1048576: true; the input reads as it did. -/
def boxesWithinUptoRow : OpenClaim := { program := "ytbobhhnhlgdkiaa", sum := "022d5d7af1b7958200fbd69dadc8e94cb27544326f65663f7813de2a388ffb57", func := "penumbra/penumbralaw10.BoxesWithin", spec := "boxesWithin", recurses := true, apart := false, narrowed := true }
def BoxesWithinUptoSaid : Prop := boxesWithinUptoRow.holds Try.pinned (OpenSpec.upto boxesWithinSpec)

/-- 'penumbralaw10.BoxesHold', WHERE WHAT IT READS IS OF BULK AT MOST 1048576: true; the input reads as it did. -/
def boxesHoldUptoRow : OpenClaim := { program := "ytbobhhnhlgdkiaa", sum := "022d5d7af1b7958200fbd69dadc8e94cb27544326f65663f7813de2a388ffb57", func := "penumbra/penumbralaw10.BoxesHold", spec := "boxesHold", recurses := true, apart := false, narrowed := true }
def BoxesHoldUptoSaid : Prop := boxesHoldUptoRow.holds Try.pinned (OpenSpec.upto boxesHoldSpec)

end Rows
end Go.Proofs.Ytbobhhnhlgdkiaa

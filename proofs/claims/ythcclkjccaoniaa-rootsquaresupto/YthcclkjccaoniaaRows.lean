/-
  No cell of these rows narrows 'for every input' (looked for: loops, veiled, ifaces, maps, wideKeys, modest, calm, conditions, laid).
  DERIVED. THE GIVEN ROWS OF THIS SEAT. 6 by the template 'for every input the law returns true; each argument reads behind the call as it read before'; 0 by the template 'total and deterministic' (their statements: YthcclkjccaoniaaTotals.lean).
  GIVEN WITH THE SEED: the statements are not yours to turn. If you find one false, say at which input.
  Laid BY PROGRAM, IN A SANDBOX (cutbox-rows.mjs): the forced cells as the released guide's own fill.sh prints them over the translation fa59850b9777f5ac… (all of the seat's roots in one cut). By AI agents, Wed Nov 11 2026. No macro, syntax, notation, axiom, sorry.
-/
import Derived.Test.YthcclkjccaoniaaChecked
import GoSem.Claim
import GoSem.ClaimJoined
import GoSem.ClaimMapViews
import Derived.JoinedTies
import Derived.KernelRfl
namespace Go.Proofs.Ythcclkjccaoniaa
/- THE CELL 'sum', in the pinned program and in every row, IS THE sha256 OF THE DUMP (.gsa) THAT YthcclkjccaoniaaProg.lean LOADS. Nothing in Lean hashes anything: it is a label: what it is worth is what the hold of that sum in a sandbox is worth. -/
noncomputable def Try.pinned : Pinned := { name := "ythcclkjccaoniaa", sum := "fa59850b9777f5acc2dbfaf425d106630355fb89c60f7fb4dfe92264bd2a7e1b", checked := Try.checked }
namespace Rows
def none {H : Type} : Left H := { results := [], args := [] }

/-- 'penumbralaw02.RootGcds': WHATEVER THE INPUT: true; the input reads as it did. -/
def rootGcdsSpec : ChangeSpec := { name := "rootGcds", fn := fun _ => fun
  | [d1, d2] => { results := [.lit (.bool true)], args := [d1, d2] }
  | _ => none }
def rootGcdsRow : OpenClaim := { program := "ythcclkjccaoniaa", sum := "fa59850b9777f5acc2dbfaf425d106630355fb89c60f7fb4dfe92264bd2a7e1b", func := "penumbra/penumbralaw02.RootGcds", spec := "rootGcds", recurses := true, apart := false }
def RootGcdsSaid : Prop := rootGcdsRow.holds Try.pinned (OpenSpec.ofChange rootGcdsSpec)

/-- ITS FALSE NEIGHBOUR: 'it returns false'. Refute it at one input. -/
def rootGcdsWrong : ChangeSpec := { name := "rootGcds", fn := fun _ => fun
  | [d1, d2] => { results := [.lit (.bool false)], args := [d1, d2] }
  | _ => none }
def RootGcdsWrongFalsely : Prop := rootGcdsRow.holds Try.pinned (OpenSpec.ofChange rootGcdsWrong)

/-- 'penumbralaw02.RootSquares': WHATEVER THE INPUT: true; the input reads as it did. -/
def rootSquaresSpec : ChangeSpec := { name := "rootSquares", fn := fun _ => fun
  | [d] => { results := [.lit (.bool true)], args := [d] }
  | _ => none }
def rootSquaresRow : OpenClaim := { program := "ythcclkjccaoniaa", sum := "fa59850b9777f5acc2dbfaf425d106630355fb89c60f7fb4dfe92264bd2a7e1b", func := "penumbra/penumbralaw02.RootSquares", spec := "rootSquares", recurses := true, apart := false }
def RootSquaresSaid : Prop := rootSquaresRow.holds Try.pinned (OpenSpec.ofChange rootSquaresSpec)

/-- ITS FALSE NEIGHBOUR: 'it returns false'. Refute it at one input. -/
def rootSquaresWrong : ChangeSpec := { name := "rootSquares", fn := fun _ => fun
  | [d] => { results := [.lit (.bool false)], args := [d] }
  | _ => none }
def RootSquaresWrongFalsely : Prop := rootSquaresRow.holds Try.pinned (OpenSpec.ofChange rootSquaresWrong)

/-- 'penumbralaw02.RootCommon': WHATEVER THE INPUT: true; the input reads as it did. -/
def rootCommonSpec : ChangeSpec := { name := "rootCommon", fn := fun _ => fun
  | [d1, d2, d3] => { results := [.lit (.bool true)], args := [d1, d2, d3] }
  | _ => none }
def rootCommonRow : OpenClaim := { program := "ythcclkjccaoniaa", sum := "fa59850b9777f5acc2dbfaf425d106630355fb89c60f7fb4dfe92264bd2a7e1b", func := "penumbra/penumbralaw02.RootCommon", spec := "rootCommon", recurses := true, apart := false }
def RootCommonSaid : Prop := rootCommonRow.holds Try.pinned (OpenSpec.ofChange rootCommonSpec)

/-- ITS FALSE NEIGHBOUR: 'it returns false'. Refute it at one input. -/
def rootCommonWrong : ChangeSpec := { name := "rootCommon", fn := fun _ => fun
  | [d1, d2, d3] => { results := [.lit (.bool false)], args := [d1, d2, d3] }
  | _ => none }
def RootCommonWrongFalsely : Prop := rootCommonRow.holds Try.pinned (OpenSpec.ofChange rootCommonWrong)

/-- 'penumbralaw02.RootFactors': WHATEVER THE INPUT: true; the input reads as it did. -/
def rootFactorsSpec : ChangeSpec := { name := "rootFactors", fn := fun _ => fun
  | [d1, d2, d3] => { results := [.lit (.bool true)], args := [d1, d2, d3] }
  | _ => none }
def rootFactorsRow : OpenClaim := { program := "ythcclkjccaoniaa", sum := "fa59850b9777f5acc2dbfaf425d106630355fb89c60f7fb4dfe92264bd2a7e1b", func := "penumbra/penumbralaw02.RootFactors", spec := "rootFactors", recurses := true, apart := false }
def RootFactorsSaid : Prop := rootFactorsRow.holds Try.pinned (OpenSpec.ofChange rootFactorsSpec)

/-- ITS FALSE NEIGHBOUR: 'it returns false'. Refute it at one input. -/
def rootFactorsWrong : ChangeSpec := { name := "rootFactors", fn := fun _ => fun
  | [d1, d2, d3] => { results := [.lit (.bool false)], args := [d1, d2, d3] }
  | _ => none }
def RootFactorsWrongFalsely : Prop := rootFactorsRow.holds Try.pinned (OpenSpec.ofChange rootFactorsWrong)

/-- 'penumbralaw02.RootBetween': WHATEVER THE INPUT: true; the input reads as it did. -/
def rootBetweenSpec : ChangeSpec := { name := "rootBetween", fn := fun _ => fun
  | [d] => { results := [.lit (.bool true)], args := [d] }
  | _ => none }
def rootBetweenRow : OpenClaim := { program := "ythcclkjccaoniaa", sum := "fa59850b9777f5acc2dbfaf425d106630355fb89c60f7fb4dfe92264bd2a7e1b", func := "penumbra/penumbralaw02.RootBetween", spec := "rootBetween", recurses := true, apart := false }
def RootBetweenSaid : Prop := rootBetweenRow.holds Try.pinned (OpenSpec.ofChange rootBetweenSpec)

/-- ITS FALSE NEIGHBOUR: 'it returns false'. Refute it at one input. -/
def rootBetweenWrong : ChangeSpec := { name := "rootBetween", fn := fun _ => fun
  | [d] => { results := [.lit (.bool false)], args := [d] }
  | _ => none }
def RootBetweenWrongFalsely : Prop := rootBetweenRow.holds Try.pinned (OpenSpec.ofChange rootBetweenWrong)

/-- 'penumbralaw02.RootNext': WHATEVER THE INPUT: true; the input reads as it did. -/
def rootNextSpec : ChangeSpec := { name := "rootNext", fn := fun _ => fun
  | [d] => { results := [.lit (.bool true)], args := [d] }
  | _ => none }
def rootNextRow : OpenClaim := { program := "ythcclkjccaoniaa", sum := "fa59850b9777f5acc2dbfaf425d106630355fb89c60f7fb4dfe92264bd2a7e1b", func := "penumbra/penumbralaw02.RootNext", spec := "rootNext", recurses := true, apart := false }
def RootNextSaid : Prop := rootNextRow.holds Try.pinned (OpenSpec.ofChange rootNextSpec)

/-- ITS FALSE NEIGHBOUR: 'it returns false'. Refute it at one input. -/
def rootNextWrong : ChangeSpec := { name := "rootNext", fn := fun _ => fun
  | [d] => { results := [.lit (.bool false)], args := [d] }
  | _ => none }
def RootNextWrongFalsely : Prop := rootNextRow.holds Try.pinned (OpenSpec.ofChange rootNextWrong)

/- THE SECOND FORM. 'bulk': how many values and letters a reading holds, each counted each time it is reached (what is shared counts as often as it is met; a slice's spare places count too). A statement '..UptoSaid' is the law's where the arguments, and the package variables that the reading takes, are together of bulk at most 1048576: NARROWER than '..Said'. Prove '..Said' where nothing that the law and all that it calls make is longer than what came in: it says more and counts as full. Else prove '..UptoSaid'. A law counts once. -/
mutual
def uptoBulk {H : Type} : DataW H → Nat
  | .lit (.string bytes) => bytes.length + 1
  | .lit _ => 1
  | .nil => 1
  | .ptr d => uptoBulk d + 1
  | .slice elems spare => uptoBulkAll elems + uptoBulkAll spare + 1
  | .agg parts => uptoBulkAll parts + 1
  | .iface _ d => uptoBulk d + 1
  | .map entries => uptoBulkEntries entries + 1
  | .held _ => 1
def uptoBulkAll {H : Type} : List (DataW H) → Nat
  | [] => 0
  | d :: r => uptoBulk d + uptoBulkAll r
def uptoBulkEntries {H : Type} : List (Lit × DataW H) → Nat
  | [] => 0
  | x :: r => uptoBulkEntry x + uptoBulkEntries r
def uptoBulkEntry {H : Type} : Lit × DataW H → Nat
  | (.string bytes, d) => bytes.length + uptoBulk d + 1
  | (_, d) => uptoBulk d + 1
 end
def uptoSmall : (H : Type) → List (DataW H) → Bool := fun _ ds => decide (uptoBulkAll ds ≤ 1048576)
def OpenSpec.upto (s : _root_.Go.ChangeSpec) : _root_.Go.OpenSpec := { _root_.Go.OpenSpec.ofChange s with cond := some uptoSmall }

/-- 'penumbralaw02.RootGcds', WHERE WHAT IT READS IS OF BULK AT MOST 1048576: true; the input reads as it did. -/
def rootGcdsUptoRow : OpenClaim := { program := "ythcclkjccaoniaa", sum := "fa59850b9777f5acc2dbfaf425d106630355fb89c60f7fb4dfe92264bd2a7e1b", func := "penumbra/penumbralaw02.RootGcds", spec := "rootGcds", recurses := true, apart := false, narrowed := true }
def RootGcdsUptoSaid : Prop := rootGcdsUptoRow.holds Try.pinned (OpenSpec.upto rootGcdsSpec)

/-- 'penumbralaw02.RootSquares', WHERE WHAT IT READS IS OF BULK AT MOST 1048576: true; the input reads as it did. -/
def rootSquaresUptoRow : OpenClaim := { program := "ythcclkjccaoniaa", sum := "fa59850b9777f5acc2dbfaf425d106630355fb89c60f7fb4dfe92264bd2a7e1b", func := "penumbra/penumbralaw02.RootSquares", spec := "rootSquares", recurses := true, apart := false, narrowed := true }
def RootSquaresUptoSaid : Prop := rootSquaresUptoRow.holds Try.pinned (OpenSpec.upto rootSquaresSpec)

/-- 'penumbralaw02.RootCommon', WHERE WHAT IT READS IS OF BULK AT MOST 1048576: true; the input reads as it did. -/
def rootCommonUptoRow : OpenClaim := { program := "ythcclkjccaoniaa", sum := "fa59850b9777f5acc2dbfaf425d106630355fb89c60f7fb4dfe92264bd2a7e1b", func := "penumbra/penumbralaw02.RootCommon", spec := "rootCommon", recurses := true, apart := false, narrowed := true }
def RootCommonUptoSaid : Prop := rootCommonUptoRow.holds Try.pinned (OpenSpec.upto rootCommonSpec)

/-- 'penumbralaw02.RootFactors', WHERE WHAT IT READS IS OF BULK AT MOST 1048576: true; the input reads as it did. -/
def rootFactorsUptoRow : OpenClaim := { program := "ythcclkjccaoniaa", sum := "fa59850b9777f5acc2dbfaf425d106630355fb89c60f7fb4dfe92264bd2a7e1b", func := "penumbra/penumbralaw02.RootFactors", spec := "rootFactors", recurses := true, apart := false, narrowed := true }
def RootFactorsUptoSaid : Prop := rootFactorsUptoRow.holds Try.pinned (OpenSpec.upto rootFactorsSpec)

/-- 'penumbralaw02.RootBetween', WHERE WHAT IT READS IS OF BULK AT MOST 1048576: true; the input reads as it did. -/
def rootBetweenUptoRow : OpenClaim := { program := "ythcclkjccaoniaa", sum := "fa59850b9777f5acc2dbfaf425d106630355fb89c60f7fb4dfe92264bd2a7e1b", func := "penumbra/penumbralaw02.RootBetween", spec := "rootBetween", recurses := true, apart := false, narrowed := true }
def RootBetweenUptoSaid : Prop := rootBetweenUptoRow.holds Try.pinned (OpenSpec.upto rootBetweenSpec)

/-- 'penumbralaw02.RootNext', WHERE WHAT IT READS IS OF BULK AT MOST 1048576: true; the input reads as it did. -/
def rootNextUptoRow : OpenClaim := { program := "ythcclkjccaoniaa", sum := "fa59850b9777f5acc2dbfaf425d106630355fb89c60f7fb4dfe92264bd2a7e1b", func := "penumbra/penumbralaw02.RootNext", spec := "rootNext", recurses := true, apart := false, narrowed := true }
def RootNextUptoSaid : Prop := rootNextUptoRow.holds Try.pinned (OpenSpec.upto rootNextSpec)

end Rows
end Go.Proofs.Ythcclkjccaoniaa

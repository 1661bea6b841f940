/-
  No cell of these rows narrows 'for every input' (looked for: loops, veiled, ifaces, maps, wideKeys, modest, calm, conditions, laid).
  DERIVED. THE GIVEN ROWS OF THIS SEAT. 3 by the template 'for every input the law returns true; each argument reads behind the call as it read before'; 0 by the template 'total and deterministic' (their statements: YtmoicmjljflcgaaTotals.lean).
  GIVEN WITH THE SEED: the statements are not yours to turn. If you find one false, say at which input.
  Laid BY PROGRAM, IN A SANDBOX (cutbox-rows.mjs): the forced cells as the released guide's own fill.sh prints them over the translation f8297ee1c2fcf283… (all of the seat's roots in one cut). By AI agents, Wed Nov 11 2026. No macro, syntax, notation, axiom, sorry.
-/
import Derived.Test.YtmoicmjljflcgaaChecked
import GoSem.Claim
import GoSem.ClaimJoined
import GoSem.ClaimMapViews
import Derived.JoinedTies
import Derived.KernelRfl
namespace Go.Proofs.Ytmoicmjljflcgaa
/- THE CELL 'sum', in the pinned program and in every row, IS THE sha256 OF THE DUMP (.gsa) THAT YtmoicmjljflcgaaProg.lean LOADS. Nothing in Lean hashes anything: it is a label: what it is worth is what the hold of that sum in a sandbox is worth. -/
noncomputable def Try.pinned : Pinned := { name := "ytmoicmjljflcgaa", sum := "f8297ee1c2fcf28321b1865281410a9a5f8852b9feb7fda983af662d39aa3fd6", checked := Try.checked }
namespace Rows
def none {H : Type} : Left H := { results := [], args := [] }

/-- 'penumbralaw08.TriAims': WHATEVER THE INPUT: true; the input reads as it did. -/
def triAimsSpec : ChangeSpec := { name := "triAims", fn := fun _ => fun
  | [d1, d2, d3] => { results := [.lit (.bool true)], args := [d1, d2, d3] }
  | _ => none }
def triAimsRow : OpenClaim := { program := "ytmoicmjljflcgaa", sum := "f8297ee1c2fcf28321b1865281410a9a5f8852b9feb7fda983af662d39aa3fd6", func := "penumbra/penumbralaw08.TriAims", spec := "triAims", recurses := true, apart := false }
def TriAimsSaid : Prop := triAimsRow.holds Try.pinned (OpenSpec.ofChange triAimsSpec)

/-- ITS FALSE NEIGHBOUR: 'it returns false'. Refute it at one input. -/
def triAimsWrong : ChangeSpec := { name := "triAims", fn := fun _ => fun
  | [d1, d2, d3] => { results := [.lit (.bool false)], args := [d1, d2, d3] }
  | _ => none }
def TriAimsWrongFalsely : Prop := triAimsRow.holds Try.pinned (OpenSpec.ofChange triAimsWrong)

/-- 'penumbralaw08.TriTurned': WHATEVER THE INPUT: true; the input reads as it did. -/
def triTurnedSpec : ChangeSpec := { name := "triTurned", fn := fun _ => fun
  | [d1, d2, d3] => { results := [.lit (.bool true)], args := [d1, d2, d3] }
  | _ => none }
def triTurnedRow : OpenClaim := { program := "ytmoicmjljflcgaa", sum := "f8297ee1c2fcf28321b1865281410a9a5f8852b9feb7fda983af662d39aa3fd6", func := "penumbra/penumbralaw08.TriTurned", spec := "triTurned", recurses := true, apart := false }
def TriTurnedSaid : Prop := triTurnedRow.holds Try.pinned (OpenSpec.ofChange triTurnedSpec)

/-- ITS FALSE NEIGHBOUR: 'it returns false'. Refute it at one input. -/
def triTurnedWrong : ChangeSpec := { name := "triTurned", fn := fun _ => fun
  | [d1, d2, d3] => { results := [.lit (.bool false)], args := [d1, d2, d3] }
  | _ => none }
def TriTurnedWrongFalsely : Prop := triTurnedRow.holds Try.pinned (OpenSpec.ofChange triTurnedWrong)

/-- 'penumbralaw08.TriTaken': WHATEVER THE INPUT: true; the input reads as it did. -/
def triTakenSpec : ChangeSpec := { name := "triTaken", fn := fun _ => fun
  | [d1, d2, d3] => { results := [.lit (.bool true)], args := [d1, d2, d3] }
  | _ => none }
def triTakenRow : OpenClaim := { program := "ytmoicmjljflcgaa", sum := "f8297ee1c2fcf28321b1865281410a9a5f8852b9feb7fda983af662d39aa3fd6", func := "penumbra/penumbralaw08.TriTaken", spec := "triTaken", recurses := true, apart := false }
def TriTakenSaid : Prop := triTakenRow.holds Try.pinned (OpenSpec.ofChange triTakenSpec)

/-- ITS FALSE NEIGHBOUR: 'it returns false'. Refute it at one input. -/
def triTakenWrong : ChangeSpec := { name := "triTaken", fn := fun _ => fun
  | [d1, d2, d3] => { results := [.lit (.bool false)], args := [d1, d2, d3] }
  | _ => none }
def TriTakenWrongFalsely : Prop := triTakenRow.holds Try.pinned (OpenSpec.ofChange triTakenWrong)

/- THE SECOND FORM. 'bulk': how many values and letters a reading holds, each counted each time it is reached (what is shared counts as often as it is met; a slice's spare places count too). A statement '..UptoSaid' is the law's where the arguments, and the package variables that the reading takes, are together of bulk at most 1048576: NARROWER than '..Said'. Prove '..Said' where nothing that the law and all that it calls make is longer than what came in: it says more and counts as full. Else prove '..UptoSaid'. A law counts once. -/
mutual
def uptoBulk {H : Type} : DataW H → Nat
  | .lit (.string bytes) => bytes.length + 1
  | .lit _ => 1
  | .nil => 1
  | .ptr d => uptoBulk d + 1
  | .slice elems spare => uptoBulkAll elems + uptoBulkAll spare + 1
  | .agg parts => uptoBulkAll parts + 1
  | .iface _ d => uptoBulk d + 1
  | .map entries => uptoBulkEntries entries + 1
  | .held _ => 1
def uptoBulkAll {H : Type} : List (DataW H) → Nat
  | [] => 0
  | d :: r => uptoBulk d + uptoBulkAll r
def uptoBulkEntries {H : Type} : List (Lit × DataW H) → Nat
  | [] => 0
  | x :: r => uptoBulkEntry x + uptoBulkEntries r
def uptoBulkEntry {H : Type} : Lit × DataW H → Nat
  | (.string bytes, d) => bytes.length + uptoBulk d + 1
  | (_, d) => uptoBulk d + 1
 end
def uptoSmall : (H : Type) → List (DataW H) → Bool := fun _ ds => decide (uptoBulkAll ds ≤ 1048576)
def OpenSpec.upto (s : _root_.Go.ChangeSpec) : _root_.Go.OpenSpec := { _root_.Go.OpenSpec.ofChange s with cond := some uptoSmall }

/-- 'penumbralaw08.TriAims', WHERE WHAT IT READS IS OF BULK AT MOST 1048576: true; the input reads as it did. -/
def triAimsUptoRow : OpenClaim := { program := "ytmoicmjljflcgaa", sum := "f8297ee1c2fcf28321b1865281410a9a5f8852b9feb7fda983af662d39aa3fd6", func := "penumbra/penumbralaw08.TriAims", spec := "triAims", recurses := true, apart := false, narrowed := true }
def TriAimsUptoSaid : Prop := triAimsUptoRow.holds Try.pinned (OpenSpec.upto triAimsSpec)

/-- 'penumbralaw08.TriTurned', WHERE WHAT IT READS IS OF BULK AT MOST 1048576: true; the input reads as it did. -/
def triTurnedUptoRow : OpenClaim := { program := "ytmoicmjljflcgaa", sum := "f8297ee1c2fcf28321b1865281410a9a5f8852b9feb7fda983af662d39aa3fd6", func := "penumbra/penumbralaw08.TriTurned", spec := "triTurned", recurses := true, apart := false, narrowed := true }
def TriTurnedUptoSaid : Prop := triTurnedUptoRow.holds Try.pinned (OpenSpec.upto triTurnedSpec)

/-- 'penumbralaw08.TriTaken', WHERE WHAT IT READS IS OF BULK AT MOST 1048576: true; the input reads as it did. -/
def triTakenUptoRow : OpenClaim := { program := "ytmoicmjljflcgaa", sum := "f8297ee1c2fcf28321b1865281410a9a5f8852b9feb7fda983af662d39aa3fd6", func := "penumbra/penumbralaw08.TriTaken", spec := "triTaken", recurses := true, apart := false, narrowed := true }
def TriTakenUptoSaid : Prop := triTakenUptoRow.holds Try.pinned (OpenSpec.upto triTakenSpec)

end Rows
end Go.Proofs.Ytmoicmjljflcgaa

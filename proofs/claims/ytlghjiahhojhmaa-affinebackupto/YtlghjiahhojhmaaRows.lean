/-
  No cell of these rows narrows 'for every input' (looked for: loops, veiled, ifaces, maps, wideKeys, modest, calm, conditions, laid).
  DERIVED. THE GIVEN ROWS OF THIS SEAT. 3 by the template 'for every input the law returns true; each argument reads behind the call as it read before'; 0 by the template 'total and deterministic' (their statements: YtlghjiahhojhmaaTotals.lean).
  GIVEN WITH THE SEED: the statements are not yours to turn. If you find one false, say at which input.
  Laid BY PROGRAM, IN A SANDBOX (cutbox-rows.mjs): the forced cells as the released guide's own fill.sh prints them over the translation 8ff729f416c25896… (all of the seat's roots in one cut). By AI agents, Wed Nov 11 2026. No macro, syntax, notation, axiom, sorry.
-/
import Derived.Test.YtlghjiahhojhmaaChecked
import GoSem.Claim
import GoSem.ClaimJoined
import GoSem.ClaimMapViews
import Derived.JoinedTies
import Derived.KernelRfl
namespace Go.Proofs.Ytlghjiahhojhmaa
/- THE CELL 'sum', in the pinned program and in every row, IS THE sha256 OF THE DUMP (.gsa) THAT YtlghjiahhojhmaaProg.lean LOADS. Nothing in Lean hashes anything: it is a label: what it is worth is what the hold of that sum in a sandbox is worth. -/
noncomputable def Try.pinned : Pinned := { name := "ytlghjiahhojhmaa", sum := "8ff729f416c25896c452637e9fe71adef9d843e01a866a1a28f98d14871d7f03", checked := Try.checked }
namespace Rows
def none {H : Type} : Left H := { results := [], args := [] }

/-- 'penumbralaw07.AffineBack': WHATEVER THE INPUT: true; the input reads as it did. -/
def affineBackSpec : ChangeSpec := { name := "affineBack", fn := fun _ => fun
  | [d1, d2, d3] => { results := [.lit (.bool true)], args := [d1, d2, d3] }
  | _ => none }
def affineBackRow : OpenClaim := { program := "ytlghjiahhojhmaa", sum := "8ff729f416c25896c452637e9fe71adef9d843e01a866a1a28f98d14871d7f03", func := "penumbra/penumbralaw07.AffineBack", spec := "affineBack", recurses := true, apart := false }
def AffineBackSaid : Prop := affineBackRow.holds Try.pinned (OpenSpec.ofChange affineBackSpec)

/-- ITS FALSE NEIGHBOUR: 'it returns false'. Refute it at one input. -/
def affineBackWrong : ChangeSpec := { name := "affineBack", fn := fun _ => fun
  | [d1, d2, d3] => { results := [.lit (.bool false)], args := [d1, d2, d3] }
  | _ => none }
def AffineBackWrongFalsely : Prop := affineBackRow.holds Try.pinned (OpenSpec.ofChange affineBackWrong)

/-- 'penumbralaw07.AffineAreas': WHATEVER THE INPUT: true; the input reads as it did. -/
def affineAreasSpec : ChangeSpec := { name := "affineAreas", fn := fun _ => fun
  | [d1, d2, d3] => { results := [.lit (.bool true)], args := [d1, d2, d3] }
  | _ => none }
def affineAreasRow : OpenClaim := { program := "ytlghjiahhojhmaa", sum := "8ff729f416c25896c452637e9fe71adef9d843e01a866a1a28f98d14871d7f03", func := "penumbra/penumbralaw07.AffineAreas", spec := "affineAreas", recurses := true, apart := false }
def AffineAreasSaid : Prop := affineAreasRow.holds Try.pinned (OpenSpec.ofChange affineAreasSpec)

/-- ITS FALSE NEIGHBOUR: 'it returns false'. Refute it at one input. -/
def affineAreasWrong : ChangeSpec := { name := "affineAreas", fn := fun _ => fun
  | [d1, d2, d3] => { results := [.lit (.bool false)], args := [d1, d2, d3] }
  | _ => none }
def AffineAreasWrongFalsely : Prop := affineAreasRow.holds Try.pinned (OpenSpec.ofChange affineAreasWrong)

/-- 'penumbralaw07.AffineBends': WHATEVER THE INPUT: true; the input reads as it did. -/
def affineBendsSpec : ChangeSpec := { name := "affineBends", fn := fun _ => fun
  | [d] => { results := [.lit (.bool true)], args := [d] }
  | _ => none }
def affineBendsRow : OpenClaim := { program := "ytlghjiahhojhmaa", sum := "8ff729f416c25896c452637e9fe71adef9d843e01a866a1a28f98d14871d7f03", func := "penumbra/penumbralaw07.AffineBends", spec := "affineBends", recurses := true, apart := false }
def AffineBendsSaid : Prop := affineBendsRow.holds Try.pinned (OpenSpec.ofChange affineBendsSpec)

/-- ITS FALSE NEIGHBOUR: 'it returns false'. Refute it at one input. -/
def affineBendsWrong : ChangeSpec := { name := "affineBends", fn := fun _ => fun
  | [d] => { results := [.lit (.bool false)], args := [d] }
  | _ => none }
def AffineBendsWrongFalsely : Prop := affineBendsRow.holds Try.pinned (OpenSpec.ofChange affineBendsWrong)

/- THE SECOND FORM. 'bulk': how many values and letters a reading holds, each counted each time it is reached (what is shared counts as often as it is met; a slice's spare places count too). A statement '..UptoSaid' is the law's where the arguments, and the package variables that the reading takes, are together of bulk at most 1048576: NARROWER than '..Said'. Prove '..Said' where nothing that the law and all that it calls make is longer than what came in: it says more and counts as full. Else prove '..UptoSaid'. A law counts once. -/
mutual
def uptoBulk {H : Type} : DataW H → Nat
  | .lit (.string bytes) => bytes.length + 1
  | .lit _ => 1
  | .nil => 1
  | .ptr d => uptoBulk d + 1
  | .slice elems spare => uptoBulkAll elems + uptoBulkAll spare + 1
  | .agg parts => uptoBulkAll parts + 1
  | .iface _ d => uptoBulk d + 1
  | .map entries => uptoBulkEntries entries + 1
  | .held _ => 1
def uptoBulkAll {H : Type} : List (DataW H) → Nat
  | [] => 0
  | d :: r => uptoBulk d + uptoBulkAll r
def uptoBulkEntries {H : Type} : List (Lit × DataW H) → Nat
  | [] => 0
  | x :: r => uptoBulkEntry x + uptoBulkEntries r
def uptoBulkEntry {H : Type} : Lit × DataW H → Nat
  | (.string bytes, d) => bytes.length + uptoBulk d + 1
  | (_, d) => uptoBulk d + 1
 end
def uptoSmall : (H : Type) → List (DataW H) → Bool := fun _ ds => decide (uptoBulkAll ds ≤ 1048576)
def OpenSpec.upto (s : _root_.Go.ChangeSpec) : _root_.Go.OpenSpec := { _root_.Go.OpenSpec.ofChange s with cond := some uptoSmall }

/-- 'penumbralaw07.AffineBack', WHERE WHAT IT READS IS OF BULK AT MOST 1048576: true; the input reads as it did. -/
def affineBackUptoRow : OpenClaim := { program := "ytlghjiahhojhmaa", sum := "8ff729f416c25896c452637e9fe71adef9d843e01a866a1a28f98d14871d7f03", func := "penumbra/penumbralaw07.AffineBack", spec := "affineBack", recurses := true, apart := false, narrowed := true }
def AffineBackUptoSaid : Prop := affineBackUptoRow.holds Try.pinned (OpenSpec.upto affineBackSpec)

/-- 'penumbralaw07.AffineAreas', WHERE WHAT IT READS IS OF BULK AT MOST 1048576: true; the input reads as it did. -/
def affineAreasUptoRow : OpenClaim := { program := "ytlghjiahhojhmaa", sum := "8ff729f416c25896c452637e9fe71adef9d843e01a866a1a28f98d14871d7f03", func := "penumbra/penumbralaw07.AffineAreas", spec := "affineAreas", recurses := true, apart := false, narrowed := true }
def AffineAreasUptoSaid : Prop := affineAreasUptoRow.holds Try.pinned (OpenSpec.upto affineAreasSpec)

/-- 'penumbralaw07.AffineBends', WHERE WHAT IT READS IS OF BULK AT MOST 1048576: true; the input reads as it did. -/
def affineBendsUptoRow : OpenClaim := { program := "ytlghjiahhojhmaa", sum := "8ff729f416c25896c452637e9fe71adef9d843e01a866a1a28f98d14871d7f03", func := "penumbra/penumbralaw07.AffineBends", spec := "affineBends", recurses := true, apart := false, narrowed := true }
def AffineBendsUptoSaid : Prop := affineBendsUptoRow.holds Try.pinned (OpenSpec.upto affineBendsSpec)

end Rows
end Go.Proofs.Ytlghjiahhojhmaa

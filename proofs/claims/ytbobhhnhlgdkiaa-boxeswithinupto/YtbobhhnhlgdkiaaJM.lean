/- Lengths and directions, by runs 2. -/
import Derived.Test.YtbobhhnhlgdkiaaJL
import Derived.Test.YtbobhhnhlgdkiaaJq
namespace Go.Proofs.Ytbobhhnhlgdkiaa.Sy
open Go Go.RowKit M Kahn
set_option maxRecDepth 1000000
set_option linter.unusedSimpArgs false
set_option linter.unusedVariables false

@[go_sem] def S2 : List Spec := sVSum :: S1
theorem S2_ok : AllOk Try.prog S2 := ⟨sVSum_ok, S1_ok⟩
end Go.Proofs.Ytbobhhnhlgdkiaa.Sy

/- Package frame, and penumbraref06, by runs 2. -/
namespace Go.Proofs.Ytbobhhnhlgdkiaa.Sy
open Go Go.RowKit M Kahn
set_option maxRecDepth 1000000
set_option linter.unusedSimpArgs false
set_option linter.unusedVariables false

/-- Three directions of length 1 that stand at right angles: by rows, and by columns. -/
structure Orth (e11 e12 e13 e21 e22 e23 e31 e32 e33 : Rat) : Prop where
  r11 : e11 * e11 + e12 * e12 + e13 * e13 = 1
  r12 : e11 * e21 + e12 * e22 + e13 * e23 = 0
  r13 : e11 * e31 + e12 * e32 + e13 * e33 = 0
  r21 : e21 * e11 + e22 * e12 + e23 * e13 = 0
  r22 : e21 * e21 + e22 * e22 + e23 * e23 = 1
  r23 : e21 * e31 + e22 * e32 + e23 * e33 = 0
  r31 : e31 * e11 + e32 * e12 + e33 * e13 = 0
  r32 : e31 * e21 + e32 * e22 + e33 * e23 = 0
  r33 : e31 * e31 + e32 * e32 + e33 * e33 = 1
  c11 : e11 * e11 + e21 * e21 + e31 * e31 = 1
  c12 : e11 * e12 + e21 * e22 + e31 * e32 = 0
  c13 : e11 * e13 + e21 * e23 + e31 * e33 = 0
  c21 : e12 * e11 + e22 * e21 + e32 * e31 = 0
  c22 : e12 * e12 + e22 * e22 + e32 * e32 = 1
  c23 : e12 * e13 + e22 * e23 + e32 * e33 = 0
  c31 : e13 * e11 + e23 * e21 + e33 * e31 = 0
  c32 : e13 * e12 + e23 * e22 + e33 * e32 = 0
  c33 : e13 * e13 + e23 * e23 + e33 * e33 = 1
end Go.Proofs.Ytbobhhnhlgdkiaa.Sy

/- Package frame, and penumbraref06, by runs 2: what calls the others. -/
namespace Go.Proofs.Ytbobhhnhlgdkiaa.Sy
open Go Go.RowKit M Kahn
set_option maxRecDepth 1000000
set_option linter.unusedSimpArgs false
set_option linter.unusedVariables false

end Go.Proofs.Ytbobhhnhlgdkiaa.Sy

/- Package affine, by runs 2. -/
import Derived.Test.YtbobhhnhlgdkiaaGreatJM
namespace Go.Proofs.YtbobhhnhlgdkiaaGreat.Sy
open Go Go.RowKit M Kahn
set_option maxRecDepth 1000000
set_option linter.unusedSimpArgs false
set_option linter.unusedVariables false

/-- A number of an inverse. -/
def iv (D x i : Rat) : Rat := if D = 0 then i else 1 / D * x
end Go.Proofs.YtbobhhnhlgdkiaaGreat.Sy

/- penumbraref07, by runs 2. -/
namespace Go.Proofs.YtbobhhnhlgdkiaaGreat.Sy
open Go Go.RowKit M Kahn
set_option maxRecDepth 1000000
set_option linter.unusedSimpArgs false
set_option linter.unusedVariables false

end Go.Proofs.YtbobhhnhlgdkiaaGreat.Sy

/- Package frame, and penumbraref06, by runs: what calls the others. -/
import Derived.Test.YtmoicmjljflcgaaGreatJy
namespace Go.Proofs.YtmoicmjljflcgaaGreat.Sym
open Go Go.RowKit M Kahn
set_option maxRecDepth 1000000
set_option linter.unusedSimpArgs false
set_option linter.unusedVariables false

end Go.Proofs.YtmoicmjljflcgaaGreat.Sym

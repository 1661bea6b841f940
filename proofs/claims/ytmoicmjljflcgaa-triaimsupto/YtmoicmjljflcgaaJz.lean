/- Package frame, and penumbraref06, by runs: what calls the others. -/
import Derived.Test.YtmoicmjljflcgaaJy
namespace Go.Proofs.Ytmoicmjljflcgaa.Sym
open Go Go.RowKit M Kahn
set_option maxRecDepth 1000000
set_option linter.unusedSimpArgs false
set_option linter.unusedVariables false

end Go.Proofs.Ytmoicmjljflcgaa.Sym

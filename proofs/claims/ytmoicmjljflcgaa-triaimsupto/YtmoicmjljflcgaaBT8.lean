/- penumbralaw03.fixed: true. -/
import Derived.Test.YtmoicmjljflcgaaJc
namespace Go.Proofs.Ytmoicmjljflcgaa
open Go.RowKit M Kahn
set_option maxRecDepth 100000

end Go.Proofs.Ytmoicmjljflcgaa

/- penumbralaw03.fixed: true. -/
import Derived.Test.YtmoicmjljflcgaaGreatJc
namespace Go.Proofs.YtmoicmjljflcgaaGreat
open Go.RowKit M Kahn
set_option maxRecDepth 100000

end Go.Proofs.YtmoicmjljflcgaaGreat

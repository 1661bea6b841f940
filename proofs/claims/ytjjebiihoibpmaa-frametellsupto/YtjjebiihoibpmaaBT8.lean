/- penumbralaw03.fixed: true. -/
import Derived.Test.YtjjebiihoibpmaaAc
namespace Go.Proofs.Ytjjebiihoibpmaa
open Go.RowKit M Kahn
set_option maxRecDepth 100000

end Go.Proofs.Ytjjebiihoibpmaa

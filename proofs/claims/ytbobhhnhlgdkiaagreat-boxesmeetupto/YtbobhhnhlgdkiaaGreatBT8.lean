/- penumbralaw03.fixed: true. -/
import Derived.Test.YtbobhhnhlgdkiaaGreatJc
namespace Go.Proofs.YtbobhhnhlgdkiaaGreat
open Go.RowKit M Kahn
set_option maxRecDepth 100000

end Go.Proofs.YtbobhhnhlgdkiaaGreat

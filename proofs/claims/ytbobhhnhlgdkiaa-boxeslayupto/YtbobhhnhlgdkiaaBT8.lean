/- penumbralaw03.fixed: true. -/
import Derived.Test.YtbobhhnhlgdkiaaJc
namespace Go.Proofs.Ytbobhhnhlgdkiaa
open Go.RowKit M Kahn
set_option maxRecDepth 100000

end Go.Proofs.Ytbobhhnhlgdkiaa

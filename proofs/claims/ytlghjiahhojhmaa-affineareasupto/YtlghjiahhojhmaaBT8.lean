/- penumbralaw03.fixed: true. -/
import Derived.Test.YtlghjiahhojhmaaJc
namespace Go.Proofs.Ytlghjiahhojhmaa
open Go.RowKit M Kahn
set_option maxRecDepth 100000

end Go.Proofs.Ytlghjiahhojhmaa

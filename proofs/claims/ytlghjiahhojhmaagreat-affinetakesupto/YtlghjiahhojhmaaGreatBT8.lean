/- penumbralaw03.fixed: true. -/
import Derived.Test.YtlghjiahhojhmaaGreatJc
namespace Go.Proofs.YtlghjiahhojhmaaGreat
open Go.RowKit M Kahn
set_option maxRecDepth 100000

end Go.Proofs.YtlghjiahhojhmaaGreat

/- Contracts: Left, Right. -/
import Derived.Test.YthjdflhjlaedgaaLimbD
import Derived.Test.YthjdflhjlaedgaaPlain3
namespace Go.Proofs.Ythjdflhjlaedgaa
open Go.RowKit
end Go.Proofs.Ythjdflhjlaedgaa

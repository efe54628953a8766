/- Contracts: Left, Right. -/
import Derived.Test.YthjdflhjlaedgabLimbD
import Derived.Test.YthjdflhjlaedgabPlain3
namespace Go.Proofs.Ythjdflhjlaedgab
open Go.RowKit
end Go.Proofs.Ythjdflhjlaedgab

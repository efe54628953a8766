/- rule.Label, Sees, Releases. -/
import Derived.Test.YthjdflhjlaedgabRulD
namespace Go.Proofs.Ythjdflhjlaedgab
open Go.RowKit
end Go.Proofs.Ythjdflhjlaedgab

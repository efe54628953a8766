/- Contracts: Left, Right. -/
import Derived.Test.YtipjeepcgdmomaaDoorLimbD
import Derived.Test.YtipjeepcgdmomaaDoorPlain3
namespace Go.Proofs.YtipjeepcgdmomaaDoor
open Go.RowKit
end Go.Proofs.YtipjeepcgdmomaaDoor

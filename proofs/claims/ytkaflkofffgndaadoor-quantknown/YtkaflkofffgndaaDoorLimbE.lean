/- Contracts: Left, Right. -/
import Derived.Test.YtkaflkofffgndaaDoorLimbD
import Derived.Test.YtkaflkofffgndaaDoorPlain3
namespace Go.Proofs.YtkaflkofffgndaaDoor
open Go.RowKit
end Go.Proofs.YtkaflkofffgndaaDoor

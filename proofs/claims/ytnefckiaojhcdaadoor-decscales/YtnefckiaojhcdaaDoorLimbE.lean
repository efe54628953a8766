/- Contracts: Left, Right. -/
import Derived.Test.YtnefckiaojhcdaaDoorLimbD
import Derived.Test.YtnefckiaojhcdaaDoorPlain3
namespace Go.Proofs.YtnefckiaojhcdaaDoor
open Go.RowKit
end Go.Proofs.YtnefckiaojhcdaaDoor

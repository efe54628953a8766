/- Contracts: Left, Right. -/
import Derived.Test.YtnefckiaojhcdaaLimbD
import Derived.Test.YtnefckiaojhcdaaPlain3
namespace Go.Proofs.Ytnefckiaojhcdaa
open Go.RowKit
end Go.Proofs.Ytnefckiaojhcdaa

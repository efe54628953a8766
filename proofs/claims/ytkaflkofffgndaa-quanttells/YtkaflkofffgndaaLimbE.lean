/- Contracts: Left, Right. -/
import Derived.Test.YtkaflkofffgndaaLimbD
import Derived.Test.YtkaflkofffgndaaPlain3
namespace Go.Proofs.Ytkaflkofffgndaa
open Go.RowKit
end Go.Proofs.Ytkaflkofffgndaa

/- Contracts: Left, Right. -/
import Derived.Test.YtakofbkbbmpfeabLimbD
import Derived.Test.YtakofbkbbmpfeabPlain3
namespace Go.Proofs.Ytakofbkbbmpfeab
open Go.RowKit
end Go.Proofs.Ytakofbkbbmpfeab

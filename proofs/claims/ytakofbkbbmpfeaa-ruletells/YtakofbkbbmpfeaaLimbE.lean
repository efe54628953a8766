/- Contracts: Left, Right. -/
import Derived.Test.YtakofbkbbmpfeaaLimbD
import Derived.Test.YtakofbkbbmpfeaaPlain3
namespace Go.Proofs.Ytakofbkbbmpfeaa
open Go.RowKit
end Go.Proofs.Ytakofbkbbmpfeaa

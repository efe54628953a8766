/- Contracts: Left, Right. -/
import Derived.Test.YtfppkhbbcnplfaaLimbD
import Derived.Test.YtfppkhbbcnplfaaPlain3
namespace Go.Proofs.Ytfppkhbbcnplfaa
open Go.RowKit
end Go.Proofs.Ytfppkhbbcnplfaa

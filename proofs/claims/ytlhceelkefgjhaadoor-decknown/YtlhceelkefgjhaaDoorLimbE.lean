/- Contracts: Left, Right. -/
import Derived.Test.YtlhceelkefgjhaaDoorLimbD
import Derived.Test.YtlhceelkefgjhaaDoorPlain3
namespace Go.Proofs.YtlhceelkefgjhaaDoor
open Go.RowKit
end Go.Proofs.YtlhceelkefgjhaaDoor

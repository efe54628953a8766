/- Contracts: Left, Right. -/
import Derived.Test.YtfppkhbbcnplfaaGreatDoorLimbD
import Derived.Test.YtfppkhbbcnplfaaGreatDoorPlain3
namespace Go.Proofs.YtfppkhbbcnplfaaGreatDoor
open Go.RowKit
end Go.Proofs.YtfppkhbbcnplfaaGreatDoor

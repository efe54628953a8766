/- Contracts: Left, Right. -/
import Derived.Test.YtjpimiagcijejaaGreatDoorLimbD
import Derived.Test.YtjpimiagcijejaaGreatDoorPlain3
namespace Go.Proofs.YtjpimiagcijejaaGreatDoor
open Go.RowKit
end Go.Proofs.YtjpimiagcijejaaGreatDoor

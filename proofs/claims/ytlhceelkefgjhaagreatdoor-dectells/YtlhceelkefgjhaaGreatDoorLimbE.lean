/- Contracts: Left, Right. -/
import Derived.Test.YtlhceelkefgjhaaGreatDoorLimbD
import Derived.Test.YtlhceelkefgjhaaGreatDoorPlain3
namespace Go.Proofs.YtlhceelkefgjhaaGreatDoor
open Go.RowKit
end Go.Proofs.YtlhceelkefgjhaaGreatDoor

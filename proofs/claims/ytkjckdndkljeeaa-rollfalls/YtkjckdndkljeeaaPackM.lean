/- pyxhand.Few. -/
import Derived.Test.YtkjckdndkljeeaaPackJ
import Derived.Laws.AppendOwnNone
namespace Go.Proofs.Ytkjckdndkljeeaa
open Go.RowKit
end Go.Proofs.Ytkjckdndkljeeaa

/- Bytes that came in, as a list. -/
import Derived.Test.YtkjckdndkljeeaaPackG
import Derived.ProofKit
namespace Go.Proofs.Ytkjckdndkljeeaa
open Go.RowKit
end Go.Proofs.Ytkjckdndkljeeaa

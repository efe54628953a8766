/- Several blocks that are known whole, and what was there before. -/
import Derived.Test.YthjdflhjlaedgaaHoldB
import Derived.Test.YthjdflhjlaedgaaHand
namespace Go.Proofs.Ythjdflhjlaedgaa
open Go.RowKit

section
variable {w0 w w' : World} {bs : List (Nat × TypeId × Array Value)}
end
end Go.Proofs.Ythjdflhjlaedgaa

/- Several blocks that are known whole, and what was there before. -/
import Derived.Test.YthjdflhjlaedgabHoldB
import Derived.Test.YthjdflhjlaedgabHand
namespace Go.Proofs.Ythjdflhjlaedgab
open Go.RowKit

section
variable {w0 w w' : World} {bs : List (Nat × TypeId × Array Value)}
end
end Go.Proofs.Ythjdflhjlaedgab

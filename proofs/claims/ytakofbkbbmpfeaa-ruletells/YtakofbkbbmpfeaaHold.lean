/- Several blocks that are known whole, and what was there before. -/
import Derived.Test.YtakofbkbbmpfeaaHoldB
import Derived.Test.YtakofbkbbmpfeaaHand
namespace Go.Proofs.Ytakofbkbbmpfeaa
open Go.RowKit

section
variable {w0 w w' : World} {bs : List (Nat × TypeId × Array Value)}
end
end Go.Proofs.Ytakofbkbbmpfeaa

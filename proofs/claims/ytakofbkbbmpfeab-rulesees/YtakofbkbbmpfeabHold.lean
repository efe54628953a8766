/- Several blocks that are known whole, and what was there before. -/
import Derived.Test.YtakofbkbbmpfeabHoldB
import Derived.Test.YtakofbkbbmpfeabHand
namespace Go.Proofs.Ytakofbkbbmpfeab
open Go.RowKit

section
variable {w0 w w' : World} {bs : List (Nat × TypeId × Array Value)}
end
end Go.Proofs.Ytakofbkbbmpfeab

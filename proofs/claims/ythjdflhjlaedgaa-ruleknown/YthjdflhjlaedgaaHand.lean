/- Contracts: what the statements of the first layer use. -/
import Derived.Test.YthjdflhjlaedgaaLimbI
namespace Go.Proofs.Ythjdflhjlaedgaa
open Go.RowKit

def InRange (m : Int) (v : Value) : Prop := ∃ r : Int, (0 ≤ r ∧ r < m) ∧ v = .int .i64 r
def IsU64 (v : Value) : Prop := ∃ x : Int, U64 x ∧ v = .int .u64 x
theorem u64_wrap (x : Int) : U64 (IntKind.u64.wrap x) := by
  rw [IntKind.wrap_u64]
  unfold U64
  omega
def IsTrue (v : Value) : Prop := v = .bool true
theorem known_eq {x y z u : Int} (h : MulR 0 1 0 1 x y z u) : eqW4 x y z u 0 0 1 0 = true := by
  obtain ⟨h0, h1, h2, h3, e⟩ := h
  refine eqW4_yes (v4_inj h0 h1 h2 h3 u64_0 u64_0 u64_1 u64_0 (e.trans ?_))
  simp [v4, v2]
end Go.Proofs.Ythjdflhjlaedgaa

/- Package pyxref1: numbers as slices of decimal digits. What a slice of digits is; digit. -/
import Derived.Test.YtlhceelkefgjhaaDoorHold
namespace Go.Proofs.YtlhceelkefgjhaaDoor
open Go.RowKit

/-- The slice value '.slice A n cap' holds the digits ds, the lowest first; it lies in blocks that are there. -/
def DigC (w : World) (A : Option Addr) (n cap : Nat) (ds : List Nat) : Prop :=
  ds.length = n ∧ (n ≤ cap ∧ (A = none → cap = 0)) ∧ n ≤ 1000000 ∧ (∀ d ∈ ds, d < 10) ∧ (0 < n → ∃ b off, A = some ⟨b, off, none⟩ ∧ b < w.heap.size ∧ ∀ j, j < n → w.cell? ⟨b, off + j, none⟩ = some (.int .i64 (ds.getD j 0 : Nat)))
theorem DigC.below {w w' : World} {A : Option Addr} {n cap : Nat} {ds : List Nat} (h : DigC w A n cap ds) (hb : Below w.heap.size w w') : DigC w' A n cap ds := by
  obtain ⟨h1, h2, h3, h4, h5⟩ := h
  refine ⟨h1, h2, h3, h4, fun hn => ?_⟩
  obtain ⟨b, off, e, hlt, hc⟩ := h5 hn
  exact ⟨b, off, e, Nat.lt_of_lt_of_le hlt hb.size, fun j hj => (hb.cell (p := ⟨b, off + j, none⟩) hlt).trans (hc j hj)⟩
theorem DigC.alloc {w : World} {A : Option Addr} {n cap : Nat} {ds : List Nat} (h : DigC w A n cap ds) (o : Obj) : DigC (w.alloc o) A n cap ds := h.below (bel_alloc (Below.refl _ _) o)
theorem DigC.drew {w : World} {A : Option Addr} {n cap : Nat} {ds : List Nat} (h : DigC w A n cap ds) : DigC w.drew A n cap ds := h

end Go.Proofs.YtlhceelkefgjhaaDoor

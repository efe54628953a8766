/- Package pyxref1: numbers as slices of decimal digits. What a slice of digits is; digit. -/
import Derived.Test.YtipjeepcgdmomaaDoorHold
namespace Go.Proofs.YtipjeepcgdmomaaDoor
open Go.RowKit

/-- The slice value '.slice A n cap' holds the digits ds, the lowest first; it lies in blocks that are there. -/
def DigC (w : World) (A : Option Addr) (n cap : Nat) (ds : List Nat) : Prop :=
  ds.length = n ∧ (n ≤ cap ∧ (A = none → cap = 0)) ∧ n ≤ 1000000 ∧ (∀ d ∈ ds, d < 10) ∧ (0 < n → ∃ b off, A = some ⟨b, off, none⟩ ∧ b < w.heap.size ∧ ∀ j, j < n → w.cell? ⟨b, off + j, none⟩ = some (.int .i64 (ds.getD j 0 : Nat)))
theorem DigC.below {w w' : World} {A : Option Addr} {n cap : Nat} {ds : List Nat} (h : DigC w A n cap ds) (hb : Below w.heap.size w w') : DigC w' A n cap ds := by
  obtain ⟨h1, h2, h3, h4, h5⟩ := h
  refine ⟨h1, h2, h3, h4, fun hn => ?_⟩
  obtain ⟨b, off, e, hlt, hc⟩ := h5 hn
  exact ⟨b, off, e, Nat.lt_of_lt_of_le hlt hb.size, fun j hj => (hb.cell (p := ⟨b, off + j, none⟩) hlt).trans (hc j hj)⟩
theorem DigC.alloc {w : World} {A : Option Addr} {n cap : Nat} {ds : List Nat} (h : DigC w A n cap ds) (o : Obj) : DigC (w.alloc o) A n cap ds := h.below (bel_alloc (Below.refl _ _) o)
theorem DigC.drew {w : World} {A : Option Addr} {n cap : Nat} {ds : List Nat} (h : DigC w A n cap ds) : DigC w.drew A n cap ds := h

set_option maxHeartbeats 400000 in
theorem digit_c (A : Option Addr) (n cap k : Nat) (ds : List Nat) (w : World) (h : DigC w A n cap ds) :
    Calls Tryd.prog 78 #[.slice A n cap, .int .i64 k] w fun e w' => e = .returned (.int .i64 (ds.getD k 0 : Nat)) ∧ w = w' := by
  obtain ⟨h1, ⟨h2, hnil⟩, h3, h4, h5⟩ := h
  clear hnil
  by_cases hk : k < n
  · obtain ⟨b, off, rfl, hlt, hc⟩ := h5 (by omega)
    have ck := hc k hk
    have hv : ∃ v, ds.getD k 0 = v := ⟨_, rfl⟩
    obtain ⟨v, hv⟩ := hv
    rw [hv] at ck ⊢
    clear hc h5 h4 h1 hv
    go_enter Tryd.func78, Tryd.ntmps78
    go_wp2
    go_ret
    exact ⟨rfl, rfl⟩
  · have hz : ds.getD k 0 = 0 := by
      rw [List.getD_eq_getElem?_getD, List.getElem?_eq_none (by omega)]
      rfl
    rw [hz]
    clear h5 h4 h1 hz
    go_enter Tryd.func78, Tryd.ntmps78
    go_wp2
    go_ret
    exact ⟨rfl, rfl⟩
end Go.Proofs.YtipjeepcgdmomaaDoor

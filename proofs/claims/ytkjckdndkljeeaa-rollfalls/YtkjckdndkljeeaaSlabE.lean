/- The statements of slab: the chapter's example; SlabKnown. -/
import Derived.Test.YtkjckdndkljeeaaSlabD
namespace Go.Proofs.Ytkjckdndkljeeaa
open Go.RowKit
section
variable {w : World} {g d n : Nat} {l : List UInt8} {k left torn : Int} {dead cut : Bool}
theorem write_noE (a : Int) (A : Option Addr) (m c : Nat) (h : Sl w g d n l k dead cut left torn) (ha : a ≤ 9223372036854775807) (hβ : okB dead a (m : Int) n = false) : Calls Try.prog 20 #[.pointer (some ⟨g, 0, none⟩), .int .i64 a, .slice A m c] w fun e w' => e = .returned (.bool false) ∧ Sl w' g d n l k dead cut left torn ∧ But [g, d] w w' :=
  (write_no a A m c h ha hβ).mono fun e w' ⟨he, hw⟩ => ⟨he, by rw [← hw]; exact h, by rw [← hw]; exact But.refl _ _⟩
theorem read_noE (a m : Int) (h : Sl w g d n l k dead cut left torn) (ha : a ≤ 9223372036854775807) (hβ : okB dead a m n = false) : Calls Try.prog 15 #[.pointer (some ⟨g, 0, none⟩), .int .i64 a, .int .i64 m] w fun e w' => e = .returned (.tuple #[.slice none 0 0, .bool false]) ∧ Below w.heap.size w w' :=
  (read_no a m h ha hβ).mono fun e w' ⟨he, hw⟩ => ⟨he, by rw [← hw]; exact Below.refl _ _⟩
end
theorem not2 {a b x : Nat} (h : x ≠ a ∧ x ≠ b) : x ∉ [a, b] := by simp; exact h
theorem not1 {a x : Nat} (h : x ≠ a) : x ∉ [a] := by simp; exact h
/-- Of blocks that lie behind others, none is one of them. -/
theorem apart4 {a b x y N : Nat} (ha : a < N) (hb : b < N) (hx : N ≤ x) (hy : N ≤ y) : (x ≠ a ∧ x ≠ b) ∧ (y ≠ a ∧ y ≠ b) ∧ (a ≠ x ∧ a ≠ y) ∧ (b ≠ x ∧ b ≠ y) := by omega
end Go.Proofs.Ytkjckdndkljeeaa

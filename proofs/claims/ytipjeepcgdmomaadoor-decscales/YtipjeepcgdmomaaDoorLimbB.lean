/- Contracts of package limb's functions that call others, of its shifts' parts and halves. -/
import Derived.Test.YtipjeepcgdmomaaDoorLimbA
import Derived.Lib.Hide
import Derived.RegionTactic
import Derived.BigRegion
namespace Go.Proofs.YtipjeepcgdmomaaDoor
open Go.RowKit

def SubR (a0 a1 b0 b1 s0 s1 : Int) (p : Bool) : Prop :=
  U64 s0 ∧ U64 s1 ∧ (v2 b0 b1 ≤ v2 a0 a1 ∧ p = true ∧ v2 s0 s1 + v2 b0 b1 = v2 a0 a1 ∨ v2 a0 a1 < v2 b0 b1 ∧ p = false ∧ s0 = 0 ∧ s1 = 0)
theorem u64_0 : U64 0 := by simp [U64]
theorem u64_1 : U64 1 := by simp [U64]
theorem v2_lt {a b : Int} (ha : U64 a) (hb : U64 b) : v2 a b < 340282366920938463463374607431768211456 := by simp only [U64, v2] at *; omega
theorem subR_yes {a0 a1 b0 b1 s0 s1 : Int} (ha0 : U64 a0) (ha1 : U64 a1) (hb0 : U64 b0) (hb1 : U64 b1) (h : v2 b0 b1 ≤ v2 a0 a1) (hs : SubW a0 a1 b0 b1 s0 s1) : SubR a0 a1 b0 b1 s0 s1 true := by
  have := v2_lt ha0 ha1
  have := v2_lt hb0 hb1
  obtain ⟨h0, h1, h2⟩ := hs
  exact ⟨h0, h1, Or.inl ⟨h, rfl, by omega⟩⟩

theorem below3 {w w1 : World} {o1 o2 o3 : Obj} (hb : Below (((w.alloc o1).alloc o2).alloc o3).heap.size (((w.alloc o1).alloc o2).alloc o3) w1) : Below w.heap.size w w1 :=
  ((((Below.refl _ _).alloc (Nat.le_refl _) _).alloc (by simp) _).alloc (by simp; omega) _).trans (hb.mono (by simp; omega))

end Go.Proofs.YtipjeepcgdmomaaDoor

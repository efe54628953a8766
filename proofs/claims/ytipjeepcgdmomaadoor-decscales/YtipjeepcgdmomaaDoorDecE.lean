/- Package dec: contracts at small decimals: Add, cmpSize, Cmp. -/
import Derived.Test.YtipjeepcgdmomaaDoorDecD
namespace Go.Proofs.YtipjeepcgdmomaaDoor
open Go.RowKit

/-- A decimal's number at a greater Scale, with its sign. -/
def zAt (z s t : Int) : Int := z * ((10 ^ (t - s).toNat : Nat) : Int)
theorem zAt_of {n : Bool} {a b z : Int} (s t : Int) (h : DecIs n a b z) : zAt z s t = zOf n (upN z s t) := by
  obtain ⟨rfl, _⟩ := h
  unfold zAt zOf upN
  rw [Int.natCast_mul]
  generalize ((10 ^ (t - s).toNat : Nat) : Int) = p
  by_cases hz : z < 0
  · rw [decide_eq_true hz, if_pos rfl, show (z.natAbs : Int) = -z by omega, Int.neg_mul, Int.neg_neg]
  · rw [decide_eq_false hz, if_neg (by simp), show (z.natAbs : Int) = z by omega]
theorem zOf_add (n : Bool) (M N : Nat) : zOf n M + zOf n N = zOf n (M + N) := by unfold zOf; cases n <;> simp <;> omega
theorem zOf_ge (n : Bool) (M N : Nat) (h : N ≤ M) : zOf n M + zOf (!n) N = zOf n (M - N) := by unfold zOf; cases n <;> simp <;> omega
theorem zOf_lt (n : Bool) (M N : Nat) (h : M < N) : zOf n M + zOf (!n) N = zOf (!n) (N - M) := by unfold zOf; cases n <;> simp <;> omega
theorem up_lt9 {z s t : Int} (hz : Sm z) (h0 : 0 ≤ s) (h9 : t ≤ 9) : upN z s t < 100000000000000000000000000000 := sm_mul hz (by omega)
theorem add_fin {x y x' y' s0 s1 : Int} {p : Bool} (h : AddR x y x' y' s0 s1 p) (hl : v2 x y + v2 x' y' < 1000000000000000000000000000000) : p = true ∧ U64 s0 ∧ U64 s1 ∧ v2 s0 s1 = v2 x y + v2 x' y' := by
  obtain ⟨a, b, ⟨_, hp, e⟩ | ⟨hl2, _⟩⟩ := h
  · exact ⟨hp, a, b, e⟩
  · omega
theorem sm_30 {z : Int} (h : Sm z) : z.natAbs < 1000000000000000000000000000000 := by unfold Sm at h; omega

end Go.Proofs.YtipjeepcgdmomaaDoor

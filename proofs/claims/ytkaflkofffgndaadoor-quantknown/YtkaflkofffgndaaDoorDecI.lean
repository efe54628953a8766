/- dec.Add at any decimals: one answer. -/
import Derived.Test.YtkaflkofffgndaaDoorDecH
namespace Go.Proofs.YtkaflkofffgndaaDoor
open Go.RowKit
theorem zAt_zOf (n : Bool) (N : Nat) (s t : Int) : zAt (zOf n N) s t = zOf n (N * 10 ^ (t - s).toNat) := by
  unfold zAt zOf
  rw [Int.natCast_mul]
  cases n
  · rfl
  · exact Int.neg_mul _ _
theorem upW_same (a b s : Int) : upW a b s s = v2 a b := by
  unfold upW
  rw [Int.sub_self, Int.toNat_zero, Nat.pow_zero, Nat.mul_one]
theorem sum_far (n n' : Bool) (M N : Nat) (h : 340282366920938463463374607431768211456 ≤ M) (hN : N < 1000000000000000000000000000000) : 1000000000000000000000000000000 ≤ (zOf n M + zOf n' N).natAbs ∧ 1000000000000000000000000000000 ≤ (zOf n' N + zOf n M).natAbs := by
  unfold zOf
  cases n <;> cases n' <;> simp <;> omega
/-- What Add answers. -/
def addV (n : Bool) (a b s : Int) (n' : Bool) (a' b' s' : Int) : Value := if RightD n a b s ∧ RightD n' a' b' s' then chkZ (zAt (zOf n (v2 a b)) s (max s s') + zAt (zOf n' (v2 a' b')) s' (max s s')) (max s s') else errV 1
end Go.Proofs.YtkaflkofffgndaaDoor

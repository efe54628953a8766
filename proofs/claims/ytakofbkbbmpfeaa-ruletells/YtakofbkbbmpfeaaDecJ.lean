/- Package dec at any decimals: Neg, Sign, Mul, Scaled, Sub. -/
import Derived.Test.YtakofbkbbmpfeaaDecI
import Derived.Test.YtakofbkbbmpfeaaSubA
namespace Go.Proofs.Ytakofbkbbmpfeaa
open Go.RowKit
/-- A right decimal is the number that its words and its sign tell. -/
theorem right_z {n : Bool} {a b s : Int} (ha : U64 a) (hb : U64 b) (h : RightD n a b s) : DecIs n a b (zOf n (v2 a b)) := by
  refine ⟨?_, ha, hb, (zOf_abs _ _).symm⟩
  rw [zOf_neg]
  cases n
  · rfl
  · have h0 : v2 a b ≠ 0 := fun e => h.2.2.2 ⟨rfl, e⟩
    simp [h0]
/-- An answer that is a decimal. -/
def AnsD (V v : Value) : Prop := ∃ (m : Bool) (c d q : Int), V = .agg #[.bool m, .int .u64 c, .int .u64 d, .int .i64 q] ∧ v = .agg #[.bool m, .int .u64 c, .int .u64 d, .int .i64 q]
theorem zero_form : decV 0 0 = .agg #[.bool false, .int .u64 0, .int .u64 0, .int .i64 0] := by
  unfold decV
  rfl
def negV (n : Bool) (a b s : Int) : Value := if RightD n a b s then decV (-(zOf n (v2 a b))) s else decV 0 0
def signV (n : Bool) (a b s : Int) : Int := if RightD n a b s then (zOf n (v2 a b)).sign else 0
def mulV (n : Bool) (a b s : Int) (n' : Bool) (a' b' s' : Int) : Value := if RightD n a b s ∧ RightD n' a' b' s' then chkV (n != n') (v2 a b * v2 a' b') (s + s') else errV 1
def scaledV (n : Bool) (a b s t : Int) : Value := if RightD n a b s ∧ s ≤ t ∧ t ≤ 9 then chkZ (zAt (zOf n (v2 a b)) s t) t else errV 1
def subV (n : Bool) (a b s : Int) (n' : Bool) (a' b' s' : Int) : Value := if RightD n a b s ∧ RightD n' a' b' s' then chkZ (zAt (zOf n (v2 a b)) s (max s s') - zAt (zOf n' (v2 a' b')) s' (max s s')) (max s s') else errV 1
theorem zof_30 {n : Bool} {a b s : Int} (h : RightD n a b s) : (zOf n (v2 a b)).natAbs < 1000000000000000000000000000000 := by
  rw [zOf_abs]
  exact h.1

theorem decIs_zOf {n : Bool} {a b z : Int} (h : DecIs n a b z) : zOf n (v2 a b) = z := by
  obtain ⟨rfl, _, _, e⟩ := h
  rw [e]
  unfold zOf
  by_cases hz : z < 0
  · rw [decide_eq_true hz, if_pos rfl]
    omega
  · rw [decide_eq_false hz, if_neg (by simp)]
    omega
end Go.Proofs.Ytakofbkbbmpfeaa

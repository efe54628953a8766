/- Package dec: contracts at small decimals: difference, Mul, Add. -/
import Derived.Test.YtipjeepcgdmomaaDoorDecC
namespace Go.Proofs.YtipjeepcgdmomaaDoor
open Go.RowKit

theorem sub_fin {x y x' y' s0 s1 : Int} {p : Bool} (h : SubR x y x' y' s0 s1 p) (hle : v2 x' y' ≤ v2 x y) : p = true ∧ U64 s0 ∧ U64 s1 ∧ v2 s0 s1 = v2 x y - v2 x' y' := by
  obtain ⟨a, b, ⟨_, hp, e⟩ | ⟨hl, _⟩⟩ := h
  · exact ⟨hp, a, b, by omega⟩
  · omega
theorem sub_no {x y x' y' s0 s1 : Int} {p : Bool} (h : SubR x y x' y' s0 s1 p) (hlt : v2 x y < v2 x' y') : p = false := by
  obtain ⟨a, b, ⟨hl, _⟩ | ⟨_, hp, _⟩⟩ := h
  · omega
  · exact hp
theorem isDecE_of {z z' s e : Int} {w : World} {f : FuncId} {args : Array Value} (h : Calls Tryd.prog f args w (Ret w (IsDecE z s e))) (hz : z = z') : Calls Tryd.prog f args w (Ret w (IsDecE z' s e)) := by
  subst hz
  exact h

theorem mul_sign {n : Bool} {a b z : Int} {n' : Bool} {a' b' z' : Int} (h : DecIs n a b z) (h' : DecIs n' a' b' z') : zOf (n != n') (z.natAbs * z'.natAbs) = z * z' := by
  obtain ⟨rfl, _⟩ := h
  obtain ⟨rfl, _⟩ := h'
  have e : ((z.natAbs * z'.natAbs : Nat) : Int) = (z.natAbs : Int) * (z'.natAbs : Int) := Int.natCast_mul _ _
  unfold zOf
  rw [e]
  by_cases h1 : z < 0
  · have e1 : (z.natAbs : Int) = -z := by omega
    by_cases h2 : z' < 0
    · have e2 : (z'.natAbs : Int) = -z' := by omega
      rw [e1, e2, decide_eq_true h1, decide_eq_true h2, Int.neg_mul_neg]
      rfl
    · have e2 : (z'.natAbs : Int) = z' := by omega
      rw [e1, e2, decide_eq_true h1, decide_eq_false h2, Int.neg_mul, Int.neg_neg]
      rfl
  · have e1 : (z.natAbs : Int) = z := by omega
    by_cases h2 : z' < 0
    · have e2 : (z'.natAbs : Int) = -z' := by omega
      rw [e1, e2, decide_eq_false h1, decide_eq_true h2, Int.mul_neg, Int.neg_neg]
      rfl
    · have e2 : (z'.natAbs : Int) = z' := by omega
      rw [e1, e2, decide_eq_false h1, decide_eq_false h2]
      rfl

end Go.Proofs.YtipjeepcgdmomaaDoor

/- Ord: two operations that may come up in either order. -/
import Derived.Test.YtakofbkbbmpfeabOrd
namespace Go.Proofs.Ytakofbkbbmpfeab
open Go.RowKit
section
variable {P : Program} {ops : Array Oper} {Q : Exit → Act → World → Prop} {md : Region.Mode} {S : World → Prop}
/-- Number i comes up. -/
def OrdI (P : Program) (md : Region.Mode) (ops : Array Oper) (Q : Exit → Act → World → Prop) (S : World → Prop) (fuel : Nat) (listed : Array Bool) (a : Act) (w : World) (i : Nat) : Prop :=
  ∀ o, ops[i]? = some o → NoP P ops o a w fun v w' => S w' ∧ OrdH P md ops Q S fuel (listed.setIfInBounds i true) (a.put o.dst v) w'
theorem ordI_only {i : Nat} {oi : Oper} {v : Value} {w' : World} {fuel : Nat} {listed : Array Bool} {a : Act} {w : World} (hi : ops[i]? = some oi)
    (hw : Region.wanted oi (yielded ops a.tmps) = true) (hv : (execOp a.eval oi).run P w = .ok (.value v) w') (hS : S w')
    (h : OrdH P md ops Q S fuel (listed.setIfInBounds i true) (a.put oi.dst v) w') : OrdI P md ops Q S fuel listed a w i := by
  intro oj hoj
  rw [hi] at hoj
  cases hoj
  exact .inl ⟨hw, .inl ⟨v, w', hv, hS, h⟩⟩
theorem ordI_call {i : Nat} {oi : Oper} {f : FuncId} {args : Array Value} {w1 : World} {fuel : Nat} {listed : Array Bool} {a : Act} {w : World} (hi : ops[i]? = some oi)
    (hw : Region.wanted oi (yielded ops a.tmps) = true) (hv : (execOp a.eval oi).run P w = .ok (.enter f args) w1)
    (h : Calls P f args w1 fun e w' => ∃ v, e = .returned v ∧ S w' ∧ OrdH P md ops Q S fuel (listed.setIfInBounds i true) (a.put oi.dst v) w') : OrdI P md ops Q S fuel listed a w i := by
  intro oj hoj
  rw [hi] at hoj
  cases hoj
  exact .inl ⟨hw, .inr ⟨f, args, w1, hv, h⟩⟩
theorem ord_two {i j : Nat} {fuel : Nat} {listed : Array Bool} {a : Act} {w : World} (hr : Region.ready md ops listed = [i, j])
    (h1 : OrdI P md ops Q S fuel listed a w i) (h2 : OrdI P md ops Q S fuel listed a w j) : OrdH P md ops Q S (fuel + 1) listed a w := by
  refine ⟨fun h => (by rw [h] at hr; cases hr), fun k hk o ho => ?_⟩
  rw [hr] at hk
  rcases (show k = i ∨ k = j by simpa using hk) with rfl | rfl
  · exact h1 o ho
  · exact h2 o ho
end
end Go.Proofs.Ytakofbkbbmpfeab

/- A region that draws its order: what reads alone, the same in every world that meets S, is taken first; what is left comes up one by one, from the world as it stands. No operation of it panics. -/
/- Ord: two operations that may come up in either order. -/
import Derived.Test.YtakofbkbbmpfeaaProg
import Derived.WalkKit
import Derived.OrdersHeld
namespace Go.Proofs.Ytakofbkbbmpfeaa
open Go.RowKit

section
variable {P : Program} {ops : Array Oper} {Q : Exit → Act → World → Prop} {md : Region.Mode} {S : World → Prop}

/-- Operation o, from state a and world w, leaves a value and a world for which K holds; or it is not wanted. -/
def NoP (P : Program) (ops : Array Oper) (o : Oper) (a : Act) (w : World) (K : Value → World → Prop) : Prop :=
  (Region.wanted o (yielded ops a.tmps) = true ∧
    ((∃ v w', (execOp a.eval o).run P w = .ok (.value v) w' ∧ K v w') ∨
     (∃ f args w1, (execOp a.eval o).run P w = .ok (.enter f args) w1 ∧ Calls P f args w1 fun e w' => ∃ v, e = .returned v ∧ K v w'))) ∨
  (Region.wanted o (yielded ops a.tmps) = false ∧ K undef w) ∨
  (Region.wanted o (yielded ops a.tmps) = true ∧ o.dst = none ∧ ∃ w', (execOp a.eval o).run P w = .ok .skip w' ∧ K undef w')
theorem NoP.mono {o : Oper} {a : Act} {w : World} {K K' : Value → World → Prop} (h : NoP P ops o a w K) (hk : ∀ v w', K v w' → K' v w') : NoP P ops o a w K' := by
  rcases h with ⟨hw, ⟨v, w', hr, hK⟩ | ⟨f, args, w1, hr, hc⟩⟩ | ⟨hw, hK⟩ | ⟨hw, hd, w', hr, hK⟩
  · exact .inl ⟨hw, .inl ⟨v, w', hr, hk _ _ hK⟩⟩
  · exact .inl ⟨hw, .inr ⟨f, args, w1, hr, hc.mono fun e w' ⟨v, he, hK⟩ => ⟨v, he, hk _ _ hK⟩⟩⟩
  · exact .inr (.inl ⟨hw, hk _ _ hK⟩)
  · exact .inr (.inr ⟨hw, hd, w', hr, hk _ _ hK⟩)
theorem NoP.same {o : Oper} {a a' : Act} {w : World} {K : Value → World → Prop} (h : NoP P ops o a w K) (he : execOp a'.eval o = execOp a.eval o)
    (hw : Region.wanted o (yielded ops a'.tmps) = Region.wanted o (yielded ops a.tmps)) : NoP P ops o a' w K := by
  unfold NoP at *
  rw [he, hw]
  exact h
/-- In every world that meets S it yields v, and leaves the world alone; or it is not wanted. -/
def OneV (P : Program) (ops : Array Oper) (S : World → Prop) (o : Oper) (v : Value) (a : Act) : Prop :=
  (Region.wanted o (yielded ops a.tmps) = true ∧ ∀ w, S w → (execOp a.eval o).run P w = .ok (.value v) w) ∨ (Region.wanted o (yielded ops a.tmps) = false ∧ v = undef)
theorem OneV.same {o : Oper} {v : Value} {a a' : Act} (h : OneV P ops S o v a) (he : execOp a'.eval o = execOp a.eval o)
    (hw : Region.wanted o (yielded ops a'.tmps) = Region.wanted o (yielded ops a.tmps)) : OneV P ops S o v a' := by
  unfold OneV at *
  rw [he, hw]
  exact h
theorem OneV.nop {o : Oper} {v : Value} {a : Act} {w : World} {K : Value → World → Prop} (h : OneV P ops S o v a) (hS : S w) (hK : K v w) : NoP P ops o a w K := by
  rcases h with ⟨hw, hr⟩ | ⟨hw, rfl⟩
  · exact .inl ⟨hw, .inl ⟨v, w, hr w hS, hK⟩⟩
  · exact .inr (.inl ⟨hw, hK⟩)

def OrdH (P : Program) (md : Region.Mode) (ops : Array Oper) (Q : Exit → Act → World → Prop) (S : World → Prop) : Nat → Array Bool → Act → World → Prop
  | 0, listed, a, w => Region.ready md ops listed = [] ∧ Q .normal a w
  | fuel + 1, listed, a, w =>
    (Region.ready md ops listed = [] → Q .normal a w) ∧
    ∀ i ∈ Region.ready md ops listed, ∀ o, ops[i]? = some o → NoP P ops o a w fun v w' => S w' ∧ OrdH P md ops Q S fuel (listed.setIfInBounds i true) (a.put o.dst v) w'

theorem NoP.step {i : Nat} {o : Oper} {a : Act} {w : World} {K : Act → World → Prop} (hi : ops[i]? = some o) (h : NoP P ops o a w fun v w' => K (a.put o.dst v) w') : wpOp P ops Q i K a w := by
  unfold wpOp
  simp only [hi]
  rcases h with ⟨hw, hv⟩ | ⟨hw, hK⟩ | ⟨hw, _, w', hr, hK⟩
  · simp only [hw, if_true]
    refine .inl ?_
    unfold Oper.wp
    rcases hv with ⟨v, w', hr, hK⟩ | ⟨f, args, w1, hr, hc⟩
    · rw [hr, Oper.upon_value]
      exact hK
    · rw [hr, Oper.upon_enter]
      refine Calls.mono hc fun e w' he => ?_
      obtain ⟨v, rfl, hK⟩ := he
      exact hK
  · simp only [hw, Bool.false_eq_true, if_false]
    exact hK
  · simp only [hw, if_true]
    refine .inl ?_
    unfold Oper.wp
    rw [hr, Oper.upon_skip]
    exact hK
theorem wpAny_of_ord : ∀ (fuel : Nat) (listed : Array Bool) (a : Act) (w : World), OrdH P md ops Q S fuel listed a w → wpAny P md ops Q fuel listed a w
  | 0, _, _, _, h => h
  | fuel + 1, listed, a, w, h => ⟨h.1, fun i hi => by
      obtain ⟨_, o, ho, _⟩ := mem_ready.1 hi
      exact (((h.2 i hi o ho).mono fun v w' hK => wpAny_of_ord fuel _ _ _ hK.2)).step ho⟩

theorem ord_first {i : Nat} {oi : Oper} {v : Value} (hi : ops[i]? = some oi) (hsel : ∀ (j : Nat) (o : Oper) cs b, ops[j]? = some o → o.op ≠ .select cs b) :
    ∀ (fuel : Nat) (listed : Array Bool) (a : Act) (w : World),
      (∀ j oj, ops[j]? = some oj → j ≠ i → listed.getD j true = false → (∀ e ∈ oj.after, Region.binds md e = true → e.on ≠ i) → oi.apart ops oj = true) →
      i ∈ Region.ready md ops listed → OneV P ops S oi v a → S w →
      OrdH P md ops Q S fuel (listed.setIfInBounds i true) (a.put oi.dst v) w → OrdH P md ops Q S (fuel + 1) listed a w := by
  intro fuel
  induction fuel with
  | zero =>
    intro listed a w _ hr hy hS H
    refine ⟨fun h => (by rw [h] at hr; cases hr), fun j hj oj hoj => ?_⟩
    by_cases hji : j = i
    · subst hji
      rw [hi] at hoj
      cases hoj
      exact hy.nop hS ⟨hS, H⟩
    · have := ready_mono hj hji
      rw [H.1] at this
      cases this
  | succ fuel ih =>
    intro listed a w hfree hr hy hS H
    refine ⟨fun h => (by rw [h] at hr; cases hr), fun j hj oj hoj => ?_⟩
    by_cases hji : j = i
    · subst hji
      rw [hi] at hoj
      cases hoj
      exact hy.nop hS ⟨hS, H⟩
    · have hN := H.2 j (ready_mono hj hji) oj hoj
      obtain ⟨hjun, oj', hoj', hall⟩ := mem_ready.1 hj
      rw [hoj] at hoj'
      cases hoj'
      have hnot : ∀ e ∈ oj.after, Region.binds md e = true → e.on ≠ i := fun e he hb heq => by
        have h1 := hall e he hb
        have h0 := (mem_ready.1 hr).1
        rw [heq] at h1
        rcases Nat.lt_or_ge i listed.size with h' | h'
        · simp [h'] at h0 h1; rw [h0] at h1; cases h1
        · simp [Array.getElem?_eq_none h'] at h1
      obtain ⟨h1, h2, h3⟩ := Oper.apart_spec (hfree j oj hoj hji hjun hnot)
      have hN' : NoP P ops oj a w fun u w' => S w' ∧ OrdH P md ops Q S fuel ((listed.setIfInBounds i true).setIfInBounds j true) ((a.put oi.dst v).put oj.dst u) w' :=
        hN.same (execOp_put oj (fun cs b => hsel j oj cs b hoj) a oi.dst v h1).symm (wanted_put oj a oi.dst v h1).symm
      refine hN'.mono fun u w' ⟨hS', hO⟩ => ⟨hS', ih (listed.setIfInBounds j true) (a.put oj.dst u) w' ?_ (ready_mono hr (Ne.symm hji))
        (hy.same (execOp_put oi (fun cs b => hsel i oi cs b hi) a oj.dst u h3) (wanted_put oi a oj.dst u h3)) hS' ?_⟩
      · intro k ok hk hki hun hno
        refine hfree k ok hk hki ?_ hno
        by_cases hjk : j = k
        · subst hjk; exact hjun
        · rw [_root_.Go.getD_set_ne true hjk] at hun; exact hun
      · rw [Array.setIfInBounds_comm _ _ hji, ← Act.put_comm a v u h2]
        exact hO

/-- Take number i first. -/
theorem ord_take {i : Nat} {oi : Oper} {v : Value} {fuel : Nat} {listed : Array Bool} {a : Act} {w : World} (hi : ops[i]? = some oi)
    (hs : Region.noSelect ops = true) (hf : Region.free md ops listed i = true) (hr : (Region.ready md ops listed).contains i = true)
    (hy : OneV P ops S oi v a) (hS : S w) (h : OrdH P md ops Q S fuel (listed.setIfInBounds i true) (a.put oi.dst v) w) : OrdH P md ops Q S (fuel + 1) listed a w :=
  ord_first hi (Region.noSelect_spec hs) fuel listed a w (Region.free_spec hi hf) (by simpa using hr) hy hS h
/-- It alone may come up: it leaves a value. -/
theorem ord_only {i : Nat} {oi : Oper} {v : Value} {w' : World} {fuel : Nat} {listed : Array Bool} {a : Act} {w : World} (hi : ops[i]? = some oi) (hr : Region.ready md ops listed = [i])
    (hw : Region.wanted oi (yielded ops a.tmps) = true) (hv : (execOp a.eval oi).run P w = .ok (.value v) w') (hS : S w')
    (h : OrdH P md ops Q S fuel (listed.setIfInBounds i true) (a.put oi.dst v) w') : OrdH P md ops Q S (fuel + 1) listed a w := by
  refine ⟨fun h => (by rw [h] at hr; cases hr), fun j hj oj hoj => ?_⟩
  rw [hr] at hj
  obtain rfl : j = i := by simpa using hj
  rw [hi] at hoj
  cases hoj
  exact .inl ⟨hw, .inl ⟨v, w', hv, hS, h⟩⟩
/-- It alone may come up: it stores. -/
theorem ord_skip {i : Nat} {oi : Oper} {w' : World} {fuel : Nat} {listed : Array Bool} {a : Act} {w : World} (hi : ops[i]? = some oi) (hr : Region.ready md ops listed = [i])
    (hw : Region.wanted oi (yielded ops a.tmps) = true) (hd : oi.dst = none) (hv : (execOp a.eval oi).run P w = .ok .skip w') (hS : S w')
    (h : OrdH P md ops Q S fuel (listed.setIfInBounds i true) a w') : OrdH P md ops Q S (fuel + 1) listed a w := by
  refine ⟨fun h => (by rw [h] at hr; cases hr), fun j hj oj hoj => ?_⟩
  rw [hr] at hj
  obtain rfl : j = i := by simpa using hj
  rw [hi] at hoj
  cases hoj
  exact .inr (.inr ⟨hw, hd, w', hv, hS, by rw [hd]; exact h⟩)
/-- It alone may come up: it is a call. -/
theorem ord_call {i : Nat} {oi : Oper} {f : FuncId} {args : Array Value} {w1 : World} {fuel : Nat} {listed : Array Bool} {a : Act} {w : World} (hi : ops[i]? = some oi) (hr : Region.ready md ops listed = [i])
    (hw : Region.wanted oi (yielded ops a.tmps) = true) (hv : (execOp a.eval oi).run P w = .ok (.enter f args) w1)
    (h : Calls P f args w1 fun e w' => ∃ v, e = .returned v ∧ S w' ∧ OrdH P md ops Q S fuel (listed.setIfInBounds i true) (a.put oi.dst v) w') : OrdH P md ops Q S (fuel + 1) listed a w := by
  refine ⟨fun h => (by rw [h] at hr; cases hr), fun j hj oj hoj => ?_⟩
  rw [hr] at hj
  obtain rfl : j = i := by simpa using hj
  rw [hi] at hoj
  cases hoj
  exact .inl ⟨hw, .inr ⟨f, args, w1, hv, h⟩⟩
theorem ord_done {listed : Array Bool} {a : Act} {w : World} (hr : Region.ready md ops listed = []) (h : Q .normal a w) : ∀ fuel, OrdH P md ops Q S fuel listed a w
  | 0 => ⟨hr, h⟩
  | _ + 1 => ⟨fun _ => h, by rw [hr]; simp⟩
/-- More is known of the worlds from here on. -/
theorem ord_mono {S' : World → Prop} (hs : ∀ W, S' W → S W) : ∀ (fuel : Nat) (listed : Array Bool) (a : Act) (w : World), OrdH P md ops Q S' fuel listed a w → OrdH P md ops Q S fuel listed a w
  | 0, _, _, _, h => h
  | fuel + 1, _, _, _, h => ⟨h.1, fun i hi o ho => (h.2 i hi o ho).mono fun _ _ hK => ⟨hs _ hK.1, ord_mono hs fuel _ _ _ hK.2⟩⟩
/-- The beginning. -/
theorem wp_region_ord {id : Nat} {a : Act} {w : World} (hm : P.follows .mixedOrders = true)
    (h : OrdH P .any ops Q S ops.size (Array.replicate ops.size false) a w.drew) : (Code.region id ops true).wp P Q a w :=
  wp_region_any hm (wpAny_of_ord _ _ _ _ h)
end
end Go.Proofs.Ytakofbkbbmpfeaa

namespace Go.Proofs.Ytakofbkbbmpfeaa
open Go.RowKit
section
variable {P : Program} {ops : Array Oper} {Q : Exit → Act → World → Prop} {md : Region.Mode} {S : World → Prop}
/-- Number i comes up. -/
def OrdI (P : Program) (md : Region.Mode) (ops : Array Oper) (Q : Exit → Act → World → Prop) (S : World → Prop) (fuel : Nat) (listed : Array Bool) (a : Act) (w : World) (i : Nat) : Prop :=
  ∀ o, ops[i]? = some o → NoP P ops o a w fun v w' => S w' ∧ OrdH P md ops Q S fuel (listed.setIfInBounds i true) (a.put o.dst v) w'
theorem ordI_only {i : Nat} {oi : Oper} {v : Value} {w' : World} {fuel : Nat} {listed : Array Bool} {a : Act} {w : World} (hi : ops[i]? = some oi)
    (hw : Region.wanted oi (yielded ops a.tmps) = true) (hv : (execOp a.eval oi).run P w = .ok (.value v) w') (hS : S w')
    (h : OrdH P md ops Q S fuel (listed.setIfInBounds i true) (a.put oi.dst v) w') : OrdI P md ops Q S fuel listed a w i := by
  intro oj hoj
  rw [hi] at hoj
  cases hoj
  exact .inl ⟨hw, .inl ⟨v, w', hv, hS, h⟩⟩
theorem ordI_call {i : Nat} {oi : Oper} {f : FuncId} {args : Array Value} {w1 : World} {fuel : Nat} {listed : Array Bool} {a : Act} {w : World} (hi : ops[i]? = some oi)
    (hw : Region.wanted oi (yielded ops a.tmps) = true) (hv : (execOp a.eval oi).run P w = .ok (.enter f args) w1)
    (h : Calls P f args w1 fun e w' => ∃ v, e = .returned v ∧ S w' ∧ OrdH P md ops Q S fuel (listed.setIfInBounds i true) (a.put oi.dst v) w') : OrdI P md ops Q S fuel listed a w i := by
  intro oj hoj
  rw [hi] at hoj
  cases hoj
  exact .inl ⟨hw, .inr ⟨f, args, w1, hv, h⟩⟩
theorem ord_two {i j : Nat} {fuel : Nat} {listed : Array Bool} {a : Act} {w : World} (hr : Region.ready md ops listed = [i, j])
    (h1 : OrdI P md ops Q S fuel listed a w i) (h2 : OrdI P md ops Q S fuel listed a w j) : OrdH P md ops Q S (fuel + 1) listed a w := by
  refine ⟨fun h => (by rw [h] at hr; cases hr), fun k hk o ho => ?_⟩
  rw [hr] at hk
  rcases (show k = i ∨ k = j by simpa using hk) with rfl | rfl
  · exact h1 o ho
  · exact h2 o ho
end
end Go.Proofs.Ytakofbkbbmpfeaa

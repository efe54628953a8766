/- As Ord: but the one operation z, that waits for all others (a store behind all), may end in a world that does not meet S. -/
import Derived.Test.YtakofbkbbmpfeaaOrd2
import Derived.StillTail
namespace Go.Proofs.Ytakofbkbbmpfeaa
open Go.RowKit

section
variable {P : Program} {ops : Array Oper} {Q : Exit → Act → World → Prop} {md : Region.Mode} {S : World → Prop} {z : Nat}
def OrdZ (P : Program) (md : Region.Mode) (ops : Array Oper) (Q : Exit → Act → World → Prop) (S : World → Prop) (z : Nat) : Nat → Array Bool → Act → World → Prop
  | 0, listed, a, w => Region.ready md ops listed = [] ∧ Q .normal a w
  | fuel + 1, listed, a, w =>
    (Region.ready md ops listed = [] → Q .normal a w) ∧
    ∀ i ∈ Region.ready md ops listed, ∀ o, ops[i]? = some o → NoP P ops o a w fun v w' => (i = z ∨ S w') ∧ OrdZ P md ops Q S z fuel (listed.setIfInBounds i true) (a.put o.dst v) w'
theorem wpAny_of_ordz : ∀ (fuel : Nat) (listed : Array Bool) (a : Act) (w : World), OrdZ P md ops Q S z fuel listed a w → wpAny P md ops Q fuel listed a w
  | 0, _, _, _, h => h
  | fuel + 1, listed, a, w, h => ⟨h.1, fun i hi => by
      obtain ⟨_, o, ho, _⟩ := mem_ready.1 hi
      exact (((h.2 i hi o ho).mono fun v w' hK => wpAny_of_ordz fuel _ _ _ hK.2)).step ho⟩

theorem ordz_first {i : Nat} {oi : Oper} {v : Value} (hi : ops[i]? = some oi) (hz : Region.waitsFor md ops z i = true) (hsel : ∀ (j : Nat) (o : Oper) cs b, ops[j]? = some o → o.op ≠ .select cs b) :
    ∀ (fuel : Nat) (listed : Array Bool) (a : Act) (w : World),
      (∀ j oj, ops[j]? = some oj → j ≠ i → listed.getD j true = false → (∀ e ∈ oj.after, Region.binds md e = true → e.on ≠ i) → oi.apart ops oj = true) →
      i ∈ Region.ready md ops listed → OneV P ops S oi v a → S w →
      OrdZ P md ops Q S z fuel (listed.setIfInBounds i true) (a.put oi.dst v) w → OrdZ P md ops Q S z (fuel + 1) listed a w := by
  intro fuel
  induction fuel with
  | zero =>
    intro listed a w _ hr hy hS H
    refine ⟨fun h => (by rw [h] at hr; cases hr), fun j hj oj hoj => ?_⟩
    by_cases hji : j = i
    · subst hji
      rw [hi] at hoj
      cases hoj
      exact hy.nop hS ⟨.inr hS, H⟩
    · have := ready_mono hj hji
      rw [H.1] at this
      cases this
  | succ fuel ih =>
    intro listed a w hfree hr hy hS H
    refine ⟨fun h => (by rw [h] at hr; cases hr), fun j hj oj hoj => ?_⟩
    by_cases hji : j = i
    · subst hji
      rw [hi] at hoj
      cases hoj
      exact hy.nop hS ⟨.inr hS, H⟩
    · have hN := H.2 j (ready_mono hj hji) oj hoj
      obtain ⟨hjun, oj', hoj', hall⟩ := mem_ready.1 hj
      rw [hoj] at hoj'
      cases hoj'
      have hnot : ∀ e ∈ oj.after, Region.binds md e = true → e.on ≠ i := fun e he hb heq => by
        have h1 := hall e he hb
        have h0 := (mem_ready.1 hr).1
        rw [heq] at h1
        rcases Nat.lt_or_ge i listed.size with h' | h'
        · simp [h'] at h0 h1; rw [h0] at h1; cases h1
        · simp [Array.getElem?_eq_none h'] at h1
      obtain ⟨h1, h2, h3⟩ := Oper.apart_spec (hfree j oj hoj hji hjun hnot)
      have hjz : j ≠ z := by
        rintro rfl
        obtain ⟨o', ho', e, he, hb, hon⟩ := Region.waitsFor_spec hz
        rw [hoj] at ho'
        cases ho'
        exact hnot e he hb hon
      have hN' : NoP P ops oj a w fun u w' => (j = z ∨ S w') ∧ OrdZ P md ops Q S z fuel ((listed.setIfInBounds i true).setIfInBounds j true) ((a.put oi.dst v).put oj.dst u) w' :=
        hN.same (execOp_put oj (fun cs b => hsel j oj cs b hoj) a oi.dst v h1).symm (wanted_put oj a oi.dst v h1).symm
      refine hN'.mono fun u w' ⟨hS0, hO⟩ => have hS' := hS0.resolve_left hjz; ⟨.inr hS', ih (listed.setIfInBounds j true) (a.put oj.dst u) w' ?_ (ready_mono hr (Ne.symm hji))
        (hy.same (execOp_put oi (fun cs b => hsel i oi cs b hi) a oj.dst u h3) (wanted_put oi a oj.dst u h3)) hS' ?_⟩
      · intro k ok hk hki hun hno
        refine hfree k ok hk hki ?_ hno
        by_cases hjk : j = k
        · subst hjk; exact hjun
        · rw [_root_.Go.getD_set_ne true hjk] at hun; exact hun
      · rw [Array.setIfInBounds_comm _ _ hji, ← Act.put_comm a v u h2]
        exact hO

/-- Take number i first. -/
theorem ordz_take {i : Nat} {oi : Oper} {v : Value} {fuel : Nat} {listed : Array Bool} {a : Act} {w : World} (hi : ops[i]? = some oi)
    (hs : Region.noSelect ops = true) (hf : Region.free md ops listed i = true) (hr : (Region.ready md ops listed).contains i = true) (hz : Region.waitsFor md ops z i = true)
    (hy : OneV P ops S oi v a) (hS : S w) (h : OrdZ P md ops Q S z fuel (listed.setIfInBounds i true) (a.put oi.dst v) w) : OrdZ P md ops Q S z (fuel + 1) listed a w :=
  ordz_first hi hz (Region.noSelect_spec hs) fuel listed a w (Region.free_spec hi hf) (by simpa using hr) hy hS h
/-- It alone may come up: it leaves a value. -/
theorem ordz_only {i : Nat} {oi : Oper} {v : Value} {w' : World} {fuel : Nat} {listed : Array Bool} {a : Act} {w : World} (hi : ops[i]? = some oi) (hr : Region.ready md ops listed = [i])
    (hw : Region.wanted oi (yielded ops a.tmps) = true) (hv : (execOp a.eval oi).run P w = .ok (.value v) w') (hS : i = z ∨ S w')
    (h : OrdZ P md ops Q S z fuel (listed.setIfInBounds i true) (a.put oi.dst v) w') : OrdZ P md ops Q S z (fuel + 1) listed a w := by
  refine ⟨fun h => (by rw [h] at hr; cases hr), fun j hj oj hoj => ?_⟩
  rw [hr] at hj
  obtain rfl : j = i := by simpa using hj
  rw [hi] at hoj
  cases hoj
  exact .inl ⟨hw, .inl ⟨v, w', hv, hS, h⟩⟩
/-- It alone may come up: it stores. -/
theorem ordz_skip {i : Nat} {oi : Oper} {w' : World} {fuel : Nat} {listed : Array Bool} {a : Act} {w : World} (hi : ops[i]? = some oi) (hr : Region.ready md ops listed = [i])
    (hw : Region.wanted oi (yielded ops a.tmps) = true) (hd : oi.dst = none) (hv : (execOp a.eval oi).run P w = .ok .skip w') (hS : i = z ∨ S w')
    (h : OrdZ P md ops Q S z fuel (listed.setIfInBounds i true) a w') : OrdZ P md ops Q S z (fuel + 1) listed a w := by
  refine ⟨fun h => (by rw [h] at hr; cases hr), fun j hj oj hoj => ?_⟩
  rw [hr] at hj
  obtain rfl : j = i := by simpa using hj
  rw [hi] at hoj
  cases hoj
  exact .inr (.inr ⟨hw, hd, w', hv, hS, by rw [hd]; exact h⟩)
/-- It alone may come up: it is a call. -/
theorem ordz_call {i : Nat} {oi : Oper} {f : FuncId} {args : Array Value} {w1 : World} {fuel : Nat} {listed : Array Bool} {a : Act} {w : World} (hi : ops[i]? = some oi) (hr : Region.ready md ops listed = [i])
    (hw : Region.wanted oi (yielded ops a.tmps) = true) (hv : (execOp a.eval oi).run P w = .ok (.enter f args) w1)
    (h : Calls P f args w1 fun e w' => ∃ v, e = .returned v ∧ (i = z ∨ S w') ∧ OrdZ P md ops Q S z fuel (listed.setIfInBounds i true) (a.put oi.dst v) w') : OrdZ P md ops Q S z (fuel + 1) listed a w := by
  refine ⟨fun h => (by rw [h] at hr; cases hr), fun j hj oj hoj => ?_⟩
  rw [hr] at hj
  obtain rfl : j = i := by simpa using hj
  rw [hi] at hoj
  cases hoj
  exact .inl ⟨hw, .inr ⟨f, args, w1, hv, h⟩⟩
theorem ordz_done {listed : Array Bool} {a : Act} {w : World} (hr : Region.ready md ops listed = []) (h : Q .normal a w) : ∀ fuel, OrdZ P md ops Q S z fuel listed a w
  | 0 => ⟨hr, h⟩
  | _ + 1 => ⟨fun _ => h, by rw [hr]; simp⟩
/-- The beginning. -/
theorem wp_region_ordz {id : Nat} {a : Act} {w : World} (hm : P.follows .mixedOrders = true)
    (h : OrdZ P .any ops Q S z ops.size (Array.replicate ops.size false) a w.drew) : (Code.region id ops true).wp P Q a w :=
  wp_region_any hm (wpAny_of_ordz _ _ _ _ h)
end
end Go.Proofs.Ytakofbkbbmpfeaa

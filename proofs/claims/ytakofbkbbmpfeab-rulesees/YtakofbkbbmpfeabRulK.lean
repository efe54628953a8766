/- RuleDenies, plainly: rules added, rules turned. -/
import Derived.Test.YtakofbkbbmpfeabRulI
namespace Go.Proofs.Ytakofbkbbmpfeab
open Go.RowKit
theorem tagM_nonneg (c : RuleP → Bool) : ∀ (l : List RuleP) (a : Int), a ≤ l.foldl (fun a r => if c r then max a r.tag else a) a
  | [], a => Int.le_refl a
  | r :: l, a => by
    rw [List.foldl_cons]
    refine Int.le_trans ?_ (tagM_nonneg c l _)
    split
    · omega
    · omega
theorem tagM_ge (c : RuleP → Bool) (l : List RuleP) : 0 ≤ tagM c l := tagM_nonneg c l 0
theorem tagM_from (c : RuleP → Bool) : ∀ (l : List RuleP) (a b : Int), l.foldl (fun a r => if c r then max a r.tag else a) (max a b) = max a (l.foldl (fun a r => if c r then max a r.tag else a) b)
  | [], a, b => rfl
  | r :: l, a, b => by
    rw [List.foldl_cons, List.foldl_cons]
    by_cases h : c r = true
    · rw [if_pos h, if_pos h, show max (max a b) r.tag = max a (max b r.tag) by omega]
      exact tagM_from c l a _
    · rw [if_neg h, if_neg h]
      exact tagM_from c l a b
theorem tagM_app (c : RuleP → Bool) (l m : List RuleP) : tagM c (l ++ m) = max (tagM c l) (tagM c m) := by
  unfold tagM
  rw [List.foldl_append]
  have h := tagM_from c m (l.foldl (fun a r => if c r then max a r.tag else a) 0) 0
  rw [← h]
  congr 1
  have := tagM_ge c l
  unfold tagM at this
  omega
/-- The order of rules does not count. -/
theorem tagM_turn (c : RuleP → Bool) (l : List RuleP) (k : Nat) : tagM c (l.drop k ++ l.take k) = tagM c l := by
  rw [tagM_app, ← congrArg (tagM c) (List.take_append_drop k l), tagM_app]
  omega
theorem tagM_one (c : RuleP → Bool) (l : List RuleP) (r : RuleP) : tagM c (l ++ [r]) = if c r then max (tagM c l) r.tag else tagM c l := tagM_snoc c l r
/-- What one may, with other rules. -/
def withR (P : PolP) (l : List RuleP) : PolP := { P with rules := l }
theorem mayL_with (P : PolP) (l : List RuleP) (ro : Nat) (v e : Int) : mayL (withR P l) ro v e = if tagM (spk P ro v e) l = 0 then decide (tagM (spk P ro v (-1)) l = 1) else decide (tagM (spk P ro v e) l = 1) := rfl
theorem mayL_turn (P : PolP) (ro : Nat) (v e : Int) (k : Nat) : mayL (withR P (P.rules.drop k ++ P.rules.take k)) ro v e = mayL P ro v e := by
  rw [mayL_with, tagM_turn, tagM_turn]
  rfl
/-- A rule of Deny that is added never lets one do more. -/
theorem mayL_deny (P : PolP) (ro : Nat) (v e : Int) (r : RuleP) (ht : r.tag = 2) (h : mayL (withR P (P.rules ++ [r])) ro v e = true) : mayL P ro v e = true := by
  rw [mayL_with, tagM_one, tagM_one, ht] at h
  unfold mayL
  have g1 := tagM_ge (spk P ro v e) P.rules
  have g2 := tagM_ge (spk P ro v (-1)) P.rules
  cases h1 : spk P ro v e r <;> cases h2 : spk P ro v (-1) r <;> rw [h1, h2] at h <;> simp only [if_true, Bool.false_eq_true, if_false] at h
  · exact h
  · by_cases h0 : tagM (spk P ro v e) P.rules = 0
    · rw [if_pos h0] at h
      have := of_decide_eq_true h
      omega
    · rw [if_neg h0] at h ⊢
      exact h
  · rw [if_neg (by omega)] at h
    have := of_decide_eq_true h
    omega
  · rw [if_neg (by omega)] at h
    have := of_decide_eq_true h
    omega
/-- One of Allow never lets one do less. -/
theorem mayL_allow (P : PolP) (ro : Nat) (v e : Int) (r : RuleP) (ht : r.tag = 1) (h : mayL P ro v e = true) : mayL (withR P (P.rules ++ [r])) ro v e = true := by
  rw [mayL_with, tagM_one, tagM_one, ht]
  unfold mayL at h
  have g1 := tagM_ge (spk P ro v e) P.rules
  have g2 := tagM_ge (spk P ro v (-1)) P.rules
  by_cases h0 : tagM (spk P ro v e) P.rules = 0
  · rw [if_pos h0] at h
    have h' := of_decide_eq_true h
    cases h1 : spk P ro v e r <;> cases h2 : spk P ro v (-1) r <;> simp only [if_true, Bool.false_eq_true, if_false] <;> rw [h0]
    · rw [if_pos rfl]; exact h
    · rw [if_pos rfl, h']; rfl
    · rfl
    · rfl
  · rw [if_neg h0] at h
    have h' := of_decide_eq_true h
    cases h1 : spk P ro v e r <;> cases h2 : spk P ro v (-1) r <;> simp only [if_true, Bool.false_eq_true, if_false] <;> rw [h'] <;> rfl
/-- One that speaks of another entity changes nothing. -/
theorem mayL_other (P : PolP) (ro : Nat) (v e : Int) (r : RuleP) (h1 : r.ent ≠ e) (h2 : r.ent ≠ -1) : mayL (withR P (P.rules ++ [r])) ro v e = mayL P ro v e := by
  have s1 : spk P ro v e r = false := by unfold spk; rw [decide_eq_false h1, Bool.and_false, Bool.and_false, Bool.and_false]
  have s2 : spk P ro v (-1) r = false := by unfold spk; rw [decide_eq_false h2, Bool.and_false, Bool.and_false, Bool.and_false]
  rw [mayL_with, tagM_one, tagM_one, s1, s2]
  rfl
/-- Other rules: right again. -/
theorem right_with {P : PolP} {l : List RuleP} (h : RightPol P) (hl : l.length ≤ 32) (hr : AllI_ (fun _ r => RulP P.ents.length P.up.length P.grp.length r) l) : RightPol (withR P l) :=
  ⟨⟨h.1.1, h.1.2.1, h.1.2.2.1, h.1.2.2.2.1, hl⟩, h.2.1, h.2.2.1, h.2.2.2.1, hr⟩
theorem wd_with {P : PolP} {l : List RuleP} (h : PolWd P) (hl : l.length ≤ 1000000) (hr : ∀ r ∈ l, RuleW r) : PolWd (withR P l) := ⟨h.1, h.2.1, hr, h.2.2.2.1, h.2.2.2.2.1, h.2.2.2.2.2.1, h.2.2.2.2.2.2.1, hl⟩
theorem rd_with {w : World} {B : Nat} {s : Slp} {P : PolP} {l : List RuleP} (h : PolRd w B s P) {A : Option Addr} (c : Nat) (hr : RdR w B A l.length (l.flatMap ruleV)) : PolRd w B { s with Ar := A, cr := c } (withR P l) := ⟨h.1, h.2.1, h.2.2.1, h.2.2.2.1, hr⟩
theorem all_app {α : Type} {p : Nat → α → Prop} {l m : List α} (hp : ∀ i j a, p i a → p j a) (h1 : AllI_ p l) (h2 : AllI_ p m) : AllI_ p (l ++ m) := fun i a e => by
  rcases Nat.lt_or_ge i l.length with g | g
  · rw [List.getElem?_append_left g] at e
    exact h1 i a e
  · rw [List.getElem?_append_right g] at e
    exact hp _ _ a (h2 _ a e)
theorem all_sub {α : Type} {p : Nat → α → Prop} {l m : List α} (hp : ∀ i j a, p i a → p j a) (h1 : AllI_ p l) (hs : ∀ a ∈ m, a ∈ l) : AllI_ p m := fun i a e => by
  obtain ⟨j, hj⟩ := mem_at (hs a (List.mem_of_getElem? e))
  exact hp _ _ a (h1 j a hj)
end Go.Proofs.Ytakofbkbbmpfeab

/- What quant answers, at any decimals, plainly. -/
import Derived.Test.YtkaflkofffgndaaDoorQuantJ
import Derived.Test.YtkaflkofffgndaaDoorDecJ
namespace Go.Proofs.YtkaflkofffgndaaDoor
open Go.RowKit
theorem cmpI_mul (a b k : Nat) (hk : 0 < k) : cmpI (a * k) (b * k) = cmpI a b := by
  unfold cmpI
  have h1 : a * k < b * k ↔ a < b := Nat.mul_lt_mul_right hk
  have h2 : a * k = b * k ↔ a = b := Nat.mul_left_inj (by omega)
  simp only [h1, h2]
theorem roundN_mul (n : Bool) (A D k : Nat) (m : Int) (hk : 0 < k) : roundN n (A * k) (D * k) m = roundN n A D m := by
  unfold roundN
  rw [Nat.mul_div_mul_right A D hk, Nat.mul_mod_mul_right, ← Nat.sub_mul, cmpI_mul _ _ _ hk]
  congr 1
  have e : A % D * k ≠ 0 ↔ A % D ≠ 0 := by
    constructor
    · intro h h'
      rw [h', Nat.zero_mul] at h
      exact h rfl
    · intro h
      exact Nat.mul_ne_zero h (by omega)
  by_cases h : A % D ≠ 0
  · have h' := e.2 h
    simp only [h, h', ne_eq, not_false_eq_true, true_and]
  · have h' : ¬ (A % D * k ≠ 0) := fun g => h (e.1 g)
    simp only [h, h', false_and]
theorem roundN_few (n : Bool) (A D E : Nat) (m : Int) (h : 2 * A < D) (h' : 2 * A < E) : roundN n A D m = roundN n A E m := by
  unfold roundN
  have l1 : cmpI A (D - A) = -1 := by unfold cmpI; rw [if_neg (by omega), if_pos (by omega)]
  have l2 : cmpI A (E - A) = -1 := by unfold cmpI; rw [if_neg (by omega), if_pos (by omega)]
  rw [Nat.div_eq_of_lt (show A < D by omega), Nat.div_eq_of_lt (show A < E by omega), Nat.mod_eq_of_lt (show A < D by omega), Nat.mod_eq_of_lt (show A < E by omega), l1, l2]
def GoodM (t m : Int) : Prop := 0 ≤ t ∧ t ≤ 9 ∧ 0 ≤ m ∧ m ≤ 4
theorem GoodM.modes {t m : Int} (h : GoodM t m) : m = 0 ∨ m = 1 ∨ m = 2 ∨ m = 3 ∨ m = 4 := by
  obtain ⟨_, _, h1, h2⟩ := h
  omega
instance (t m : Int) : Decidable (GoodM t m) := by unfold GoodM; infer_instance
def divV (n : Bool) (a b s : Int) (n' : Bool) (a' b' s' t m : Int) : Value :=
  if RightD n a b s ∧ RightD n' a' b' s' ∧ GoodM t m then
    if v2 a' b' = 0 then errV 4 else chkV (n != n') (roundN (n != n') (v2 a b * 10 ^ (t + s').toNat) (v2 a' b' * 10 ^ s.toNat) m) t
  else errV 1
def quantV (n : Bool) (a b s t m : Int) : Value :=
  if RightD n a b s ∧ GoodM t m then chkV n (roundN n (v2 a b * 10 ^ t.toNat) (10 ^ s.toNat) m) t else errV 1
def timesV (n : Bool) (a b s : Int) (n' : Bool) (a' b' s' t m : Int) : Value :=
  if RightD n a b s ∧ RightD n' a' b' s' ∧ GoodM t m then chkV (n != n') (roundN (n != n') (v2 a b * v2 a' b' * 10 ^ t.toNat) (10 ^ (s + s').toNat) m) t else errV 1
def unitV (n : Bool) (a b s : Int) (n' : Bool) (a' b' s' m : Int) : Value :=
  if RightD n a b s ∧ RightD n' a' b' s' ∧ GoodM 0 m ∧ 0 < signV n' a' b' s' then chkV n (roundN n (v2 a b * 10 ^ s'.toNat) (v2 a' b' * 10 ^ s.toNat) m * v2 a' b') s' else errV 1
/-- The powers over and under the line, and what they are of. -/
theorem div_pow (n : Bool) (A B : Nat) (s s' t m : Int) (hs : 0 ≤ s) (hs' : 0 ≤ s') (ht : 0 ≤ t) :
    roundN n (A * 10 ^ (t + s').toNat) (B * 10 ^ s.toNat) m = roundN n (A * 10 ^ (t + s' - s).toNat) (B * 10 ^ (-(t + s' - s)).toNat) m := by
  obtain ⟨x, rfl⟩ : ∃ x : Nat, s = (x : Int) := ⟨s.toNat, by omega⟩
  obtain ⟨y, hy⟩ : ∃ y : Nat, t + s' = (y : Int) := ⟨(t + s').toNat, by omega⟩
  rw [hy]
  rcases Nat.le_total x y with h | h
  · have e1 : 10 ^ (y : Int).toNat = 10 ^ ((y : Int) - (x : Int)).toNat * 10 ^ x := by
      rw [← Nat.pow_add]; congr 1; omega
    have e2 : (-((y : Int) - (x : Int))).toNat = 0 := by omega
    rw [e1, e2, ← Nat.mul_assoc, Int.toNat_natCast, roundN_mul _ _ _ _ _ (Nat.pow_pos (by decide))]
    simp
  · have e1 : 10 ^ (x : Int).toNat = 10 ^ (-((y : Int) - (x : Int))).toNat * 10 ^ y := by
      rw [← Nat.pow_add]; congr 1; omega
    have e2 : ((y : Int) - (x : Int)).toNat = 0 := by omega
    rw [e1, e2, ← Nat.mul_assoc, Int.toNat_natCast, roundN_mul _ _ _ _ _ (Nat.pow_pos (by decide))]
    simp
end Go.Proofs.YtkaflkofffgndaaDoor

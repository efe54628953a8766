/- Package pyxref1: AddNat. -/
import Derived.Test.YtlhceelkefgjhaaDoorRefC
namespace Go.Proofs.YtlhceelkefgjhaaDoor
open Go.RowKit

theorem dv_take (a : List Nat) (k : Nat) : dv (a.take (k + 1)) = dv (a.take k) + a.getD k 0 * 10 ^ k := by
  by_cases h : k < a.length
  · rw [List.take_succ_eq_append_getElem h, dv_snoc, List.length_take, Nat.min_eq_left (Nat.le_of_lt h)]
    simp [List.getD_eq_getElem?_getD, h]
  · rw [List.take_of_length_le (by omega), List.take_of_length_le (by omega), List.getD_eq_getElem?_getD, List.getElem?_eq_none (by omega)]
    simp
theorem dv_trim {ds : List Nat} {m : Nat} (h : TrimAt ds m) : dv (ds.take m) = dv ds ∧ Norm (ds.take m) := by
  obtain ⟨h1, h2, h3⟩ := h
  constructor
  · have : ∀ k, dv (ds.take (m + k)) = dv (ds.take m) := by
      intro k
      induction k with
      | zero => rfl
      | succ k ih => rw [← Nat.add_assoc, dv_take, ih, h2 (m + k) (by omega), Nat.zero_mul, Nat.add_zero]
    have e := this (ds.length - m)
    rw [Nat.add_sub_cancel' h1, List.take_length] at e
    exact e.symm
  · by_cases hm : m = 0
    · subst hm; left; simp
    · right
      have h3 := h3 (by omega)
      rw [List.length_take, Nat.min_eq_left h1]
      rw [List.getD_eq_getElem?_getD, List.getElem?_take_of_lt (by omega), ← List.getD_eq_getElem?_getD]
      exact h3
def AddI (a b ds : List Nat) (k c : Nat) : Prop := ds.length = k ∧ (∀ d ∈ ds, d < 10) ∧ c ≤ 1 ∧ dv ds + c * 10 ^ k = dv (a.take k) + dv (b.take k)
theorem addI_0 (a b : List Nat) : AddI a b [] 0 0 := ⟨rfl, by simp, by omega, by simp [dv]⟩
theorem dig_lt {a : List Nat} (h : ∀ d ∈ a, d < 10) (k : Nat) : a.getD k 0 < 10 := by
  rw [List.getD_eq_getElem?_getD]
  cases e : a[k]? with
  | none => simp
  | some v => simpa using h v (List.mem_of_getElem? e)
theorem addI_s {a b ds : List Nat} {k c : Nat} (ha : ∀ d ∈ a, d < 10) (hb : ∀ d ∈ b, d < 10) (h : AddI a b ds k c) :
    AddI a b (ds ++ [(a.getD k 0 + b.getD k 0 + c) % 10]) (k + 1) ((a.getD k 0 + b.getD k 0 + c) / 10) := by
  obtain ⟨h1, h2, h3, h4⟩ := h
  have x := dig_lt ha k
  have y := dig_lt hb k
  refine ⟨by simp [h1], ?_, by omega, ?_⟩
  · intro d hd
    rcases List.mem_append.1 hd with hd | hd
    · exact h2 d hd
    · simp at hd; omega
  · rw [dv_snoc, h1, dv_take, dv_take, Nat.pow_succ]
    generalize hs : a.getD k 0 + b.getD k 0 + c = s
    have e : s % 10 * 10 ^ k + s / 10 * (10 ^ k * 10) = s * 10 ^ k := by
      rw [Nat.mul_comm (10 ^ k) 10, ← Nat.mul_assoc, ← Nat.add_mul, Nat.mul_comm (s / 10), Nat.mod_add_div]
    have e2 : s * 10 ^ k = a.getD k 0 * 10 ^ k + b.getD k 0 * 10 ^ k + c * 10 ^ k := by rw [← hs, Nat.add_mul, Nat.add_mul]
    omega
theorem addI_end {a b ds : List Nat} {k c : Nat} (h : AddI a b ds k c) (ha : a.length ≤ k) (hb : b.length ≤ k) (hc : c = 0) : dv ds = dv a + dv b := by
  obtain ⟨_, _, _, h4⟩ := h
  rw [List.take_of_length_le ha, List.take_of_length_le hb, hc] at h4
  omega

end Go.Proofs.YtlhceelkefgjhaaDoor

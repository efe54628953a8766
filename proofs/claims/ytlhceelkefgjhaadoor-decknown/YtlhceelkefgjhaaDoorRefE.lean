/- Package pyxref1: CmpNat. -/
import Derived.Test.YtlhceelkefgjhaaDoorRefD
import Derived.Deep.QuietTactic
import Derived.BigQuiet
namespace Go.Proofs.YtlhceelkefgjhaaDoor
open Go.RowKit

theorem dv_lt {l : List Nat} (h : ∀ d ∈ l, d < 10) : dv l < 10 ^ l.length := by
  induction l with
  | nil => simp [dv]
  | cons x l ih =>
    have h1 := ih fun d hd => h d (List.mem_cons_of_mem _ hd)
    have h2 := h x (List.mem_cons_self ..)
    simp only [dv, List.length_cons, Nat.pow_succ]
    omega
theorem dv_append (a b : List Nat) : dv (a ++ b) = dv a + 10 ^ a.length * dv b := by
  induction a with
  | nil => simp [dv]
  | cons x a ih =>
    simp only [List.cons_append, dv, ih, List.length_cons, Nat.pow_succ]
    rw [Nat.mul_add, Nat.mul_comm (10 ^ a.length) 10, Nat.mul_assoc]
    omega
theorem dv_split (a : List Nat) (k : Nat) (hk : k ≤ a.length) : dv a = dv (a.take k) + 10 ^ k * dv (a.drop k) := by
  have h := dv_append (a.take k) (a.drop k)
  rw [List.take_append_drop, List.length_take, Nat.min_eq_left hk] at h
  exact h
theorem dv_drop (a : List Nat) (k : Nat) (hk : k < a.length) : dv (a.drop k) = a.getD k 0 + 10 * dv (a.drop (k + 1)) := by
  rw [List.drop_eq_getElem_cons hk]
  simp [dv, List.getD_eq_getElem?_getD, hk]
/-- The shorter one is less. -/
theorem dv_shorter {a b : List Nat} (ha : ∀ d ∈ a, d < 10) (hb : Norm b) (h : a.length < b.length) : dv a < dv b := by
  rcases hb with rfl | hb
  · simp at h
  · have h0 : b ≠ [] := by intro e; subst e; simp at h
    have h1 := dv_ge h0 hb
    have h2 := dv_lt ha
    have h3 : 10 ^ a.length ≤ 10 ^ (b.length - 1) := Nat.pow_le_pow_right (by decide) (by omega)
    omega
theorem len_le {a b : List Nat} (ha : ∀ d ∈ a, d < 10) (hb : Norm b) (h : dv b ≤ dv a) : b.length ≤ a.length := by
  rcases Nat.lt_or_ge a.length b.length with c | c
  · have := dv_shorter ha hb c; omega
  · exact c
/-- The first digit from above that is less. -/
theorem dv_first {a b : List Nat} {p : Nat} (ha : ∀ d ∈ a, d < 10) (hl : a.length = b.length) (hp : p < a.length) (he : a.drop (p + 1) = b.drop (p + 1)) (hlt : a.getD p 0 < b.getD p 0) : dv a < dv b := by
  have h1 := dv_split a p (by omega)
  have h2 := dv_split b p (by omega)
  rw [dv_drop a p hp] at h1
  rw [dv_drop b p (by omega), ← he] at h2
  have h3 : dv (a.take p) < 10 ^ p := by
    have := dv_lt (l := a.take p) fun d hd => ha d (List.mem_of_mem_take hd)
    rwa [List.length_take, Nat.min_eq_left (by omega)] at this
  have h4 : 10 ^ p * (a.getD p 0 + 10 * dv (a.drop (p + 1))) + 10 ^ p ≤ 10 ^ p * (b.getD p 0 + 10 * dv (a.drop (p + 1))) := by
    rw [← Nat.mul_succ]
    exact Nat.mul_le_mul_left _ (by omega)
  omega
theorem bel_drewN {B : Nat} {a w : World} (h : Below B a w) (n : Nat) : Below B a (w.drewN n) := ⟨h.os, h.tape, h.output, h.size, h.block⟩
theorem ret_at {n k : Int} (h : n = k) : IsInt n (.int .i64 k) := by rw [IsInt, h]
theorem cmpI_gt {m n : Nat} (h : n < m) : cmpI m n = 1 := by
  unfold cmpI
  rw [if_neg (by omega), if_neg (by omega)]
theorem cmpI_eq {m n : Nat} (h : m = n) : cmpI m n = 0 := by
  unfold cmpI
  rw [if_pos h]
theorem drop_eq_s {a b : List Nat} {p : Nat} (ha : p < a.length) (hb : p < b.length) (h : a.drop (p + 1) = b.drop (p + 1)) (he : a.getD p 0 = b.getD p 0) : a.drop p = b.drop p := by
  rw [List.drop_eq_getElem_cons ha, List.drop_eq_getElem_cons hb, h]
  simp [List.getD_eq_getElem?_getD, ha, hb] at he
  rw [he]

def CmpRel (a b : List Nat) (n : Nat) (s : Value) : Prop := ∃ q : Int, -1 ≤ q ∧ q < n ∧ s = .int .i64 q ∧ a.drop (q + 1).toNat = b.drop (q + 1).toNat

end Go.Proofs.YtlhceelkefgjhaaDoor

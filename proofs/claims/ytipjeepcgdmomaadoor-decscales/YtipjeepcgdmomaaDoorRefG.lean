/- Package pyxref1: MulNat. -/
import Derived.Test.YtipjeepcgdmomaaDoorRefF
import Derived.Deep.OwnRows
namespace Go.Proofs.YtipjeepcgdmomaaDoor
open Go.RowKit

theorem dv_set (l : List Nat) (j v : Nat) (h : j < l.length) : dv (l.set j v) + l.getD j 0 * 10 ^ j = dv l + v * 10 ^ j := by
  induction l generalizing j with
  | nil => simp at h
  | cons x l ih =>
    cases j with
    | zero => simp [dv]; omega
    | succ j =>
      have := ih j (by simpa using h)
      simp only [List.set_cons_succ, dv, Nat.pow_succ, List.getD_cons_succ]
      rw [Nat.mul_comm (10 ^ j) 10, Nat.mul_left_comm, Nat.mul_left_comm v]
      omega
theorem getD_set (l : List Nat) (j k v : Nat) (h : j ≠ k) : (l.set j v).getD k 0 = l.getD k 0 := by
  rw [List.getD_eq_getElem?_getD, List.getD_eq_getElem?_getD, List.getElem?_set_ne h]
theorem dv_rep (n : Nat) : dv (List.replicate n 0) = 0 := by
  induction n with
  | zero => rfl
  | succ n ih => simp [List.replicate_succ, dv, ih]
theorem getD_rep (n j : Nat) : (List.replicate n 0).getD j 0 = 0 := by
  rw [List.getD_eq_getElem?_getD, List.getElem?_replicate]
  split <;> rfl
/-- So far: the first i digits of a times b. -/
def OutN (a b : List Nat) (L i : Nat) (ds : List Nat) : Prop := ds.length = L ∧ (∀ d ∈ ds, d < 10) ∧ (∀ j, i + b.length ≤ j → ds.getD j 0 = 0) ∧ dv ds = dv (a.take i) * dv b
/-- .. and of digit i times the first k of b, with a carry. -/
def MulN (a b : List Nat) (L i k c : Nat) (ds : List Nat) : Prop :=
  ds.length = L ∧ (∀ d ∈ ds, d < 10) ∧ c ≤ 9 ∧ k ≤ b.length + 1 ∧ (k = b.length + 1 → c = 0) ∧ (∀ j, i + b.length + 1 ≤ j → ds.getD j 0 = 0) ∧
    (k ≤ b.length → ∀ j, i + b.length ≤ j → k ≤ j - i → ds.getD j 0 = 0) ∧ dv ds + c * 10 ^ (i + k) = dv (a.take i) * dv b + a.getD i 0 * dv (b.take k) * 10 ^ i
theorem outN_0 (a b : List Nat) (L : Nat) : OutN a b L 0 (List.replicate L 0) :=
  ⟨by simp, fun d hd => by rw [List.eq_of_mem_replicate hd]; decide, fun j _ => getD_rep L j, by simp [dv_rep, dv]⟩
theorem mulN_0 {a b ds : List Nat} {L i : Nat} (h : OutN a b L i ds) : MulN a b L i 0 0 ds := by
  obtain ⟨h1, h2, h3, h4⟩ := h
  exact ⟨h1, h2, by omega, by omega, by omega, fun j hj => h3 j (by omega), fun _ j hj _ => h3 j hj, by simp [dv, h4]⟩
theorem mem_set_lt {ds : List Nat} {j v : Nat} (h : ∀ d ∈ ds, d < 10) (hv : v < 10) : ∀ d ∈ ds.set j v, d < 10 := by
  intro d hd
  rcases List.mem_or_eq_of_mem_set hd with h' | h'
  · exact h d h'
  · omega
theorem mulN_s {a b ds : List Nat} {L i k c : Nat} (ha : ∀ d ∈ a, d < 10) (hb : ∀ d ∈ b, d < 10) (hL : i + b.length < L) (h : MulN a b L i k c ds) (hg : k < b.length ∨ 0 < c) :
    i + k < L ∧ MulN a b L i (k + 1) ((ds.getD (i + k) 0 + a.getD i 0 * b.getD k 0 + c) / 10) (ds.set (i + k) ((ds.getD (i + k) 0 + a.getD i 0 * b.getD k 0 + c) % 10)) := by
  obtain ⟨h1, h2, h3, h4, h5, h6, h7, h8⟩ := h
  have hk : k ≤ b.length := by omega
  have x9 := dig_lt ha i
  have y9 := dig_lt hb k
  have d9 := dig_lt h2 (i + k)
  have hxy : a.getD i 0 * b.getD k 0 ≤ 9 * 9 := Nat.mul_le_mul (by omega) (by omega)
  have hend : k = b.length → ds.getD (i + k) 0 + a.getD i 0 * b.getD k 0 = 0 := by
    intro e
    have e1 := h7 hk (i + k) (by omega) (by omega)
    have e2 : b.getD k 0 = 0 := by rw [List.getD_eq_getElem?_getD, List.getElem?_eq_none (by omega)]; rfl
    rw [e1, e2]; rfl
  have hset := dv_set ds (i + k) ((ds.getD (i + k) 0 + a.getD i 0 * b.getD k 0 + c) % 10) (by omega)
  generalize hs : ds.getD (i + k) 0 + a.getD i 0 * b.getD k 0 + c = s at *
  refine ⟨by omega, by simp [h1], mem_set_lt h2 (by omega), by omega, by omega, ?_, ?_, ?_, ?_⟩
  · intro e
    have := hend (by omega)
    omega
  · intro j hj
    rw [getD_set _ _ _ _ (by omega)]
    exact h6 j hj
  · intro hk1 j hj hkj
    rw [getD_set _ _ _ _ (by omega)]
    exact h7 hk j hj (by omega)
  · rw [dv_take, Nat.mul_add, Nat.add_mul]
    have e1 : s * 10 ^ (i + k) = s % 10 * 10 ^ (i + k) + s / 10 * 10 ^ (i + (k + 1)) := by
      rw [← Nat.add_assoc, Nat.pow_succ, Nat.mul_comm (10 ^ (i + k)) 10, ← Nat.mul_assoc, ← Nat.add_mul, Nat.mul_comm (s / 10), Nat.mod_add_div]
    have e2 : s * 10 ^ (i + k) = ds.getD (i + k) 0 * 10 ^ (i + k) + a.getD i 0 * b.getD k 0 * 10 ^ (i + k) + c * 10 ^ (i + k) := by rw [← hs, Nat.add_mul, Nat.add_mul]
    have e3 : a.getD i 0 * (b.getD k 0 * 10 ^ k) * 10 ^ i = a.getD i 0 * b.getD k 0 * 10 ^ (i + k) := by
      rw [Nat.pow_add, Nat.mul_assoc, Nat.mul_assoc, Nat.mul_assoc, Nat.mul_comm (10 ^ k)]
    omega
theorem mulN_end {a b ds : List Nat} {L i k c : Nat} (h : MulN a b L i k c ds) (hk : b.length ≤ k) (hc : c = 0) : OutN a b L (i + 1) ds := by
  obtain ⟨h1, h2, _, _, _, h6, _, h8⟩ := h
  refine ⟨h1, h2, fun j hj => h6 j (by omega), ?_⟩
  rw [hc, Nat.zero_mul, Nat.add_zero, List.take_of_length_le hk] at h8
  rw [h8, dv_take, Nat.add_mul, Nat.mul_right_comm]
theorem outN_end {a b ds : List Nat} {L i : Nat} (h : OutN a b L i ds) (hi : a.length ≤ i) : dv ds = dv a * dv b := by
  rw [h.2.2.2, List.take_of_length_le hi]
def mSl (g L : Nat) : Value := .slice (some ⟨g, 0, none⟩) L L
theorem own_made {w : World} (L : Nat) (hL : L ≤ 2000000) : (w.alloc (.cells (madeCells #[.int .i64 0] L) 3)).ownsRow w.heap.size 3 1 (.slice (some ⟨w.heap.size, 0, none⟩) L L) L ((List.replicate L 0).map mkD_) := by
  have h := World.ownsRow_lit (base := w.heap.size) (e := 3) (size := 1) w (madeCells #[.int .i64 0] L) L (Nat.le_refl _) (by unfold maxLen; omega) (by simp [size_madeCells])
  rw [toList_madeCells_one] at h
  simpa [mkD_] using h
theorem own_set {w : World} {base g L cap j v : Nat} {ds : List Nat} (h : w.ownsRow base 3 1 (.slice (some ⟨g, 0, none⟩) L cap) L (ds.map mkD_)) : (w.setCell ⟨g, j, none⟩ (.int .i64 (v : Int))).ownsRow base 3 1 (.slice (some ⟨g, 0, none⟩) L cap) L ((ds.set j v).map mkD_) := by
  have := (h.stored j (.int .i64 (v : Int))).1
  rw [List.map_set]
  exact this
theorem own_cell {w : World} {base g L cap j : Nat} {ds : List Nat} (h : w.ownsRow base 3 1 (.slice (some ⟨g, 0, none⟩) L cap) L (ds.map mkD_)) (hl : ds.length = L) (hj : j < L) : w.cell? ⟨g, j, none⟩ = some (.int .i64 (ds.getD j 0 : Nat)) := by
  rw [h.cellAt j (by omega)]
  simp [mkD_, List.getD_eq_getElem?_getD, show j < ds.length by omega]
end Go.Proofs.YtipjeepcgdmomaaDoor

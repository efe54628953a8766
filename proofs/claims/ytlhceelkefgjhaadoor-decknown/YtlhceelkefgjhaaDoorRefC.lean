/- Package pyxref1: Word. -/
import Derived.Test.YtlhceelkefgjhaaDoorRefB
import Derived.OwnWalk
namespace Go.Proofs.YtlhceelkefgjhaaDoor
open Go.RowKit

/-- The value of decimal digits, the lowest first. -/
def dv : List Nat → Nat
  | [] => 0
  | d :: l => d + 10 * dv l
theorem dv_snoc (l : List Nat) (d : Nat) : dv (l ++ [d]) = dv l + d * 10 ^ l.length := by
  induction l with
  | nil => simp [dv]
  | cons x l ih =>
    simp only [List.cons_append, dv, ih, List.length_cons, Nat.pow_succ]
    generalize 10 ^ l.length = p
    rw [Nat.mul_add, ← Nat.mul_assoc 10, Nat.mul_comm p 10, ← Nat.mul_assoc d, Nat.mul_comm d 10]
    omega
def mkD_ (d : Nat) : Value := .int .i64 d
/-- So far: m is left, ds has been told. -/
def WordI (n m : Nat) (ds : List Nat) : Prop := (∀ d ∈ ds, d < 10) ∧ n = dv ds + m * 10 ^ ds.length ∧ n < 18446744073709551616 ∧ (m = 0 → ds = [] ∨ ds.getD (ds.length - 1) 0 ≠ 0)
theorem wordI_0 {n : Nat} (h : n < 18446744073709551616) : WordI n n [] := ⟨by simp, by simp [dv], h, fun _ => Or.inl rfl⟩
theorem wordI_len {n m : Nat} {ds : List Nat} (h : WordI n m ds) (hm : 0 < m) : ds.length < 20 := by
  obtain ⟨_, e, hlt, _⟩ := h
  rcases Nat.lt_or_ge ds.length 20 with c | c
  · exact c
  · have h1 : 10 ^ 20 ≤ 10 ^ ds.length := Nat.pow_le_pow_right (by decide) c
    have h2 : 1 * 10 ^ ds.length ≤ m * 10 ^ ds.length := Nat.mul_le_mul_right _ hm
    omega
theorem wordI_le {n m : Nat} {ds : List Nat} (h : WordI n m ds) : m ≤ n := by
  obtain ⟨_, e, _, _⟩ := h
  have h1 : 1 ≤ 10 ^ ds.length := Nat.pow_pos (by decide)
  have h2 : m * 1 ≤ m * 10 ^ ds.length := Nat.mul_le_mul_left _ h1
  omega
theorem wordI_s {n m : Nat} {ds : List Nat} (h : WordI n m ds) (hm : 0 < m) : WordI n (m / 10) (ds ++ [m % 10]) := by
  obtain ⟨h1, e, hlt, _⟩ := h
  refine ⟨?_, ?_, hlt, fun hz => Or.inr ?_⟩
  · intro d hd
    rcases List.mem_append.1 hd with hd | hd
    · exact h1 d hd
    · simp at hd; omega
  · rw [dv_snoc, List.length_append, List.length_singleton, Nat.pow_succ, e]
    have : m = m % 10 + 10 * (m / 10) := (Nat.mod_add_div m 10).symm
    generalize hp : 10 ^ ds.length = p
    rw [Nat.mul_comm p 10, ← Nat.mul_assoc, Nat.add_assoc, ← Nat.add_mul]
    congr 2
    omega
  · rw [List.length_append, List.length_singleton, Nat.add_sub_cancel]
    simp
    omega
/-- A number without a 0 at its end is at least as great as its length says. -/
theorem dv_ge {ds : List Nat} (h : ds ≠ []) (hn : ds.getD (ds.length - 1) 0 ≠ 0) : 10 ^ (ds.length - 1) ≤ dv ds := by
  have hs : ds = ds.dropLast ++ [ds.getLast h] := (List.dropLast_concat_getLast h).symm
  have hg : ds.getD (ds.length - 1) 0 = ds.getLast h := by
    rw [List.getLast_eq_getElem, List.getD_eq_getElem?_getD, List.getElem?_eq_getElem (by have := List.length_pos_iff.2 h; omega)]
    rfl
  rw [hg] at hn
  have e := dv_snoc ds.dropLast (ds.getLast h)
  rw [← hs, List.length_dropLast] at e
  have h2 : 1 * 10 ^ (ds.length - 1) ≤ ds.getLast h * 10 ^ (ds.length - 1) := Nat.mul_le_mul_right _ (by omega)
  omega
theorem word_len {ds : List Nat} (_h : ∀ d ∈ ds, d < 10) (hlt : dv ds < 18446744073709551616) (hn : ds = [] ∨ ds.getD (ds.length - 1) 0 ≠ 0) : ds.length ≤ 1000000 := by
  rcases hn with rfl | hn
  · simp
  · by_cases h0 : ds = []
    · subst h0; simp
    · have h1 := dv_ge h0 hn
      rcases Nat.lt_or_ge ds.length 22 with c | c
      · omega
      · have : 10 ^ 20 ≤ 10 ^ (ds.length - 1) := Nat.pow_le_pow_right (by decide) (by omega)
        omega
theorem info_int : (Tryd.prog.info? 3).map (fun i => (i.zero, i.size, i.bytes)) = some (some (.int .i64 0), 1, 8) := by kernel_rfl

theorem own_base {w : World} {base : Nat} {e : TypeId} {size n : Nat} {v : Value} {xs : List Value} (h : w.ownsRow base e size v n xs) : ∀ g, v.ownBlock = some g → base ≤ g := by
  intro g hg
  rcases h.2 with ⟨rfl, _⟩ | ⟨g', cap, cur, rfl, hb, _⟩
  · simp [Value.ownBlock] at hg
  · simp [Value.ownBlock] at hg; omega

/-- Without a 0 at its end. -/
def Norm (ds : List Nat) : Prop := ds = [] ∨ ds.getD (ds.length - 1) 0 ≠ 0
/-- It returned a slice of digits, without a 0 at its end, whose value is N; nothing that was there has turned. -/
def RetN (w : World) (N : Nat) (e : Ending) (w' : World) : Prop := ∃ (A : Option Addr) (n cap : Nat) (ds : List Nat), (DigC w' A n cap ds ∧ Norm ds ∧ dv ds = N) ∧ e = .returned (.slice A n cap) ∧ Below w.heap.size w w'
theorem dig_own {w : World} {base : Nat} {v : Value} {ds : List Nat} (h : w.ownsRow base 3 1 v ds.length (ds.map mkD_)) (hd : ∀ d ∈ ds, d < 10) (hl : ds.length ≤ 1000000) : ∃ A cap, v = .slice A ds.length cap ∧ DigC w A ds.length cap ds := by
  rcases h.2 with ⟨rfl, h0⟩ | ⟨g, cap, cur, rfl, hb, hh, hc, _, _, ht⟩
  · refine ⟨none, 0, by rw [h0], rfl, ⟨by omega, fun _ => rfl⟩, hl, hd, fun hp => by omega⟩
  · refine ⟨_, cap, rfl, rfl, ⟨hc, fun h => by cases h⟩, hl, hd, fun hp => ⟨g, 0, rfl, ?_, fun j hj => ?_⟩⟩
    · rcases Nat.lt_or_ge g w.heap.size with c | c
      · exact c
      · rw [Array.getElem?_eq_none c] at hh; cases hh
    · have := h.cells (g := g) rfl j (.int .i64 (ds.getD j 0 : Nat)) (by simp [mkD_, hj])
      rw [Nat.zero_add]
      by_cases hz : j = 0
      · subst hz; simpa [Addr.add] using this
      · simpa [Addr.add, hz] using this
end Go.Proofs.YtlhceelkefgjhaaDoor

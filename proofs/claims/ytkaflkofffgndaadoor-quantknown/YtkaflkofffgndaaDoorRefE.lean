/- Package pyxref1: numbers as slices of decimal digits. What a slice of digits is; digit. -/
/- Package pyxref1: trim. -/
/- Package pyxref1: Word. -/
/- Package pyxref1: AddNat. -/
/- Package pyxref1: CmpNat. -/
import Derived.Test.YtkaflkofffgndaaDoorHold
import Derived.OwnWalk
import Derived.Deep.QuietTactic
import Derived.BigQuiet
namespace Go.Proofs.YtkaflkofffgndaaDoor
open Go.RowKit

/-- The slice value '.slice A n cap' holds the digits ds, the lowest first; it lies in blocks that are there. -/
def DigC (w : World) (A : Option Addr) (n cap : Nat) (ds : List Nat) : Prop :=
  ds.length = n ∧ (n ≤ cap ∧ (A = none → cap = 0)) ∧ n ≤ 1000000 ∧ (∀ d ∈ ds, d < 10) ∧ (0 < n → ∃ b off, A = some ⟨b, off, none⟩ ∧ b < w.heap.size ∧ ∀ j, j < n → w.cell? ⟨b, off + j, none⟩ = some (.int .i64 (ds.getD j 0 : Nat)))
theorem DigC.below {w w' : World} {A : Option Addr} {n cap : Nat} {ds : List Nat} (h : DigC w A n cap ds) (hb : Below w.heap.size w w') : DigC w' A n cap ds := by
  obtain ⟨h1, h2, h3, h4, h5⟩ := h
  refine ⟨h1, h2, h3, h4, fun hn => ?_⟩
  obtain ⟨b, off, e, hlt, hc⟩ := h5 hn
  exact ⟨b, off, e, Nat.lt_of_lt_of_le hlt hb.size, fun j hj => (hb.cell (p := ⟨b, off + j, none⟩) hlt).trans (hc j hj)⟩
theorem DigC.alloc {w : World} {A : Option Addr} {n cap : Nat} {ds : List Nat} (h : DigC w A n cap ds) (o : Obj) : DigC (w.alloc o) A n cap ds := h.below (bel_alloc (Below.refl _ _) o)
theorem DigC.drew {w : World} {A : Option Addr} {n cap : Nat} {ds : List Nat} (h : DigC w A n cap ds) : DigC w.drew A n cap ds := h

end Go.Proofs.YtkaflkofffgndaaDoor

namespace Go.Proofs.YtkaflkofffgndaaDoor
open Go.RowKit

/-- m is where ds ends, its zeros behind left out. -/
def TrimAt (ds : List Nat) (m : Nat) : Prop := m ≤ ds.length ∧ (∀ j, m ≤ j → ds.getD j 0 = 0) ∧ (0 < m → ds.getD (m - 1) 0 ≠ 0)
def TrimUp (ds : List Nat) (m : Nat) : Prop := m ≤ ds.length ∧ (∀ j, m ≤ j → ds.getD j 0 = 0)
theorem trimUp_0 (ds : List Nat) : TrimUp ds ds.length := ⟨Nat.le_refl _, fun j hj => by rw [List.getD_eq_getElem?_getD, List.getElem?_eq_none hj]; rfl⟩
theorem trimUp_s {ds : List Nat} {m : Nat} (h : TrimUp ds (m + 1)) (hz : ds.getD m 0 = 0) : TrimUp ds m :=
  ⟨by have := h.1; omega, fun j hj => by
    rcases Nat.eq_or_lt_of_le hj with e | e
    · rw [← e]; exact hz
    · exact h.2 j e⟩
theorem DigC.take {w : World} {A : Option Addr} {n cap m : Nat} {ds : List Nat} (h : DigC w A n cap ds) (hm : m ≤ n) : DigC w A m cap (ds.take m) := by
  obtain ⟨h1, h2, h3, h4, h5⟩ := h
  refine ⟨by rw [List.length_take]; omega, ⟨by have := h2.1; omega, h2.2⟩, by omega, fun d hd => h4 d (List.mem_of_mem_take hd), fun hp => ?_⟩
  obtain ⟨b, off, e, hlt, hc⟩ := h5 (by omega)
  refine ⟨b, off, e, hlt, fun j hj => ?_⟩
  rw [hc j (by omega)]
  simp [List.getD_eq_getElem?_getD, hj]
/-- The length of a slice value. -/
def lenOf : Value → Nat
  | .slice _ n _ => n
  | _ => 0
def IsTrim (A : Option Addr) (cap : Nat) (ds : List Nat) (v : Value) : Prop := ∃ m : Nat, TrimAt ds m ∧ v = .slice A m cap

end Go.Proofs.YtkaflkofffgndaaDoor

namespace Go.Proofs.YtkaflkofffgndaaDoor
open Go.RowKit

/-- The value of decimal digits, the lowest first. -/
def dv : List Nat → Nat
  | [] => 0
  | d :: l => d + 10 * dv l
theorem dv_snoc (l : List Nat) (d : Nat) : dv (l ++ [d]) = dv l + d * 10 ^ l.length := by
  induction l with
  | nil => simp [dv]
  | cons x l ih =>
    simp only [List.cons_append, dv, ih, List.length_cons, Nat.pow_succ]
    generalize 10 ^ l.length = p
    rw [Nat.mul_add, ← Nat.mul_assoc 10, Nat.mul_comm p 10, ← Nat.mul_assoc d, Nat.mul_comm d 10]
    omega
def mkD_ (d : Nat) : Value := .int .i64 d
/-- So far: m is left, ds has been told. -/
def WordI (n m : Nat) (ds : List Nat) : Prop := (∀ d ∈ ds, d < 10) ∧ n = dv ds + m * 10 ^ ds.length ∧ n < 18446744073709551616 ∧ (m = 0 → ds = [] ∨ ds.getD (ds.length - 1) 0 ≠ 0)
theorem wordI_0 {n : Nat} (h : n < 18446744073709551616) : WordI n n [] := ⟨by simp, by simp [dv], h, fun _ => Or.inl rfl⟩
theorem wordI_len {n m : Nat} {ds : List Nat} (h : WordI n m ds) (hm : 0 < m) : ds.length < 20 := by
  obtain ⟨_, e, hlt, _⟩ := h
  rcases Nat.lt_or_ge ds.length 20 with c | c
  · exact c
  · have h1 : 10 ^ 20 ≤ 10 ^ ds.length := Nat.pow_le_pow_right (by decide) c
    have h2 : 1 * 10 ^ ds.length ≤ m * 10 ^ ds.length := Nat.mul_le_mul_right _ hm
    omega
theorem wordI_le {n m : Nat} {ds : List Nat} (h : WordI n m ds) : m ≤ n := by
  obtain ⟨_, e, _, _⟩ := h
  have h1 : 1 ≤ 10 ^ ds.length := Nat.pow_pos (by decide)
  have h2 : m * 1 ≤ m * 10 ^ ds.length := Nat.mul_le_mul_left _ h1
  omega
theorem wordI_s {n m : Nat} {ds : List Nat} (h : WordI n m ds) (hm : 0 < m) : WordI n (m / 10) (ds ++ [m % 10]) := by
  obtain ⟨h1, e, hlt, _⟩ := h
  refine ⟨?_, ?_, hlt, fun hz => Or.inr ?_⟩
  · intro d hd
    rcases List.mem_append.1 hd with hd | hd
    · exact h1 d hd
    · simp at hd; omega
  · rw [dv_snoc, List.length_append, List.length_singleton, Nat.pow_succ, e]
    have : m = m % 10 + 10 * (m / 10) := (Nat.mod_add_div m 10).symm
    generalize hp : 10 ^ ds.length = p
    rw [Nat.mul_comm p 10, ← Nat.mul_assoc, Nat.add_assoc, ← Nat.add_mul]
    congr 2
    omega
  · rw [List.length_append, List.length_singleton, Nat.add_sub_cancel]
    simp
    omega
/-- A number without a 0 at its end is at least as great as its length says. -/
theorem dv_ge {ds : List Nat} (h : ds ≠ []) (hn : ds.getD (ds.length - 1) 0 ≠ 0) : 10 ^ (ds.length - 1) ≤ dv ds := by
  have hs : ds = ds.dropLast ++ [ds.getLast h] := (List.dropLast_concat_getLast h).symm
  have hg : ds.getD (ds.length - 1) 0 = ds.getLast h := by
    rw [List.getLast_eq_getElem, List.getD_eq_getElem?_getD, List.getElem?_eq_getElem (by have := List.length_pos_iff.2 h; omega)]
    rfl
  rw [hg] at hn
  have e := dv_snoc ds.dropLast (ds.getLast h)
  rw [← hs, List.length_dropLast] at e
  have h2 : 1 * 10 ^ (ds.length - 1) ≤ ds.getLast h * 10 ^ (ds.length - 1) := Nat.mul_le_mul_right _ (by omega)
  omega
theorem word_len {ds : List Nat} (_h : ∀ d ∈ ds, d < 10) (hlt : dv ds < 18446744073709551616) (hn : ds = [] ∨ ds.getD (ds.length - 1) 0 ≠ 0) : ds.length ≤ 1000000 := by
  rcases hn with rfl | hn
  · simp
  · by_cases h0 : ds = []
    · subst h0; simp
    · have h1 := dv_ge h0 hn
      rcases Nat.lt_or_ge ds.length 22 with c | c
      · omega
      · have : 10 ^ 20 ≤ 10 ^ (ds.length - 1) := Nat.pow_le_pow_right (by decide) (by omega)
        omega
theorem info_int : (Tryd.prog.info? 3).map (fun i => (i.zero, i.size, i.bytes)) = some (some (.int .i64 0), 1, 8) := by kernel_rfl

theorem own_base {w : World} {base : Nat} {e : TypeId} {size n : Nat} {v : Value} {xs : List Value} (h : w.ownsRow base e size v n xs) : ∀ g, v.ownBlock = some g → base ≤ g := by
  intro g hg
  rcases h.2 with ⟨rfl, _⟩ | ⟨g', cap, cur, rfl, hb, _⟩
  · simp [Value.ownBlock] at hg
  · simp [Value.ownBlock] at hg; omega

/-- Without a 0 at its end. -/
def Norm (ds : List Nat) : Prop := ds = [] ∨ ds.getD (ds.length - 1) 0 ≠ 0
/-- It returned a slice of digits, without a 0 at its end, whose value is N; nothing that was there has turned. -/
def RetN (w : World) (N : Nat) (e : Ending) (w' : World) : Prop := ∃ (A : Option Addr) (n cap : Nat) (ds : List Nat), (DigC w' A n cap ds ∧ Norm ds ∧ dv ds = N) ∧ e = .returned (.slice A n cap) ∧ Below w.heap.size w w'
theorem dig_own {w : World} {base : Nat} {v : Value} {ds : List Nat} (h : w.ownsRow base 3 1 v ds.length (ds.map mkD_)) (hd : ∀ d ∈ ds, d < 10) (hl : ds.length ≤ 1000000) : ∃ A cap, v = .slice A ds.length cap ∧ DigC w A ds.length cap ds := by
  rcases h.2 with ⟨rfl, h0⟩ | ⟨g, cap, cur, rfl, hb, hh, hc, _, _, ht⟩
  · refine ⟨none, 0, by rw [h0], rfl, ⟨by omega, fun _ => rfl⟩, hl, hd, fun hp => by omega⟩
  · refine ⟨_, cap, rfl, rfl, ⟨hc, fun h => by cases h⟩, hl, hd, fun hp => ⟨g, 0, rfl, ?_, fun j hj => ?_⟩⟩
    · rcases Nat.lt_or_ge g w.heap.size with c | c
      · exact c
      · rw [Array.getElem?_eq_none c] at hh; cases hh
    · have := h.cells (g := g) rfl j (.int .i64 (ds.getD j 0 : Nat)) (by simp [mkD_, hj])
      rw [Nat.zero_add]
      by_cases hz : j = 0
      · subst hz; simpa [Addr.add] using this
      · simpa [Addr.add, hz] using this
end Go.Proofs.YtkaflkofffgndaaDoor

namespace Go.Proofs.YtkaflkofffgndaaDoor
open Go.RowKit

theorem dv_take (a : List Nat) (k : Nat) : dv (a.take (k + 1)) = dv (a.take k) + a.getD k 0 * 10 ^ k := by
  by_cases h : k < a.length
  · rw [List.take_succ_eq_append_getElem h, dv_snoc, List.length_take, Nat.min_eq_left (Nat.le_of_lt h)]
    simp [List.getD_eq_getElem?_getD, h]
  · rw [List.take_of_length_le (by omega), List.take_of_length_le (by omega), List.getD_eq_getElem?_getD, List.getElem?_eq_none (by omega)]
    simp
theorem dv_trim {ds : List Nat} {m : Nat} (h : TrimAt ds m) : dv (ds.take m) = dv ds ∧ Norm (ds.take m) := by
  obtain ⟨h1, h2, h3⟩ := h
  constructor
  · have : ∀ k, dv (ds.take (m + k)) = dv (ds.take m) := by
      intro k
      induction k with
      | zero => rfl
      | succ k ih => rw [← Nat.add_assoc, dv_take, ih, h2 (m + k) (by omega), Nat.zero_mul, Nat.add_zero]
    have e := this (ds.length - m)
    rw [Nat.add_sub_cancel' h1, List.take_length] at e
    exact e.symm
  · by_cases hm : m = 0
    · subst hm; left; simp
    · right
      have h3 := h3 (by omega)
      rw [List.length_take, Nat.min_eq_left h1]
      rw [List.getD_eq_getElem?_getD, List.getElem?_take_of_lt (by omega), ← List.getD_eq_getElem?_getD]
      exact h3
def AddI (a b ds : List Nat) (k c : Nat) : Prop := ds.length = k ∧ (∀ d ∈ ds, d < 10) ∧ c ≤ 1 ∧ dv ds + c * 10 ^ k = dv (a.take k) + dv (b.take k)
theorem addI_0 (a b : List Nat) : AddI a b [] 0 0 := ⟨rfl, by simp, by omega, by simp [dv]⟩
theorem dig_lt {a : List Nat} (h : ∀ d ∈ a, d < 10) (k : Nat) : a.getD k 0 < 10 := by
  rw [List.getD_eq_getElem?_getD]
  cases e : a[k]? with
  | none => simp
  | some v => simpa using h v (List.mem_of_getElem? e)
theorem addI_s {a b ds : List Nat} {k c : Nat} (ha : ∀ d ∈ a, d < 10) (hb : ∀ d ∈ b, d < 10) (h : AddI a b ds k c) :
    AddI a b (ds ++ [(a.getD k 0 + b.getD k 0 + c) % 10]) (k + 1) ((a.getD k 0 + b.getD k 0 + c) / 10) := by
  obtain ⟨h1, h2, h3, h4⟩ := h
  have x := dig_lt ha k
  have y := dig_lt hb k
  refine ⟨by simp [h1], ?_, by omega, ?_⟩
  · intro d hd
    rcases List.mem_append.1 hd with hd | hd
    · exact h2 d hd
    · simp at hd; omega
  · rw [dv_snoc, h1, dv_take, dv_take, Nat.pow_succ]
    generalize hs : a.getD k 0 + b.getD k 0 + c = s
    have e : s % 10 * 10 ^ k + s / 10 * (10 ^ k * 10) = s * 10 ^ k := by
      rw [Nat.mul_comm (10 ^ k) 10, ← Nat.mul_assoc, ← Nat.add_mul, Nat.mul_comm (s / 10), Nat.mod_add_div]
    have e2 : s * 10 ^ k = a.getD k 0 * 10 ^ k + b.getD k 0 * 10 ^ k + c * 10 ^ k := by rw [← hs, Nat.add_mul, Nat.add_mul]
    omega
theorem addI_end {a b ds : List Nat} {k c : Nat} (h : AddI a b ds k c) (ha : a.length ≤ k) (hb : b.length ≤ k) (hc : c = 0) : dv ds = dv a + dv b := by
  obtain ⟨_, _, _, h4⟩ := h
  rw [List.take_of_length_le ha, List.take_of_length_le hb, hc] at h4
  omega

end Go.Proofs.YtkaflkofffgndaaDoor

namespace Go.Proofs.YtkaflkofffgndaaDoor
open Go.RowKit

theorem dv_lt {l : List Nat} (h : ∀ d ∈ l, d < 10) : dv l < 10 ^ l.length := by
  induction l with
  | nil => simp [dv]
  | cons x l ih =>
    have h1 := ih fun d hd => h d (List.mem_cons_of_mem _ hd)
    have h2 := h x (List.mem_cons_self ..)
    simp only [dv, List.length_cons, Nat.pow_succ]
    omega
theorem dv_append (a b : List Nat) : dv (a ++ b) = dv a + 10 ^ a.length * dv b := by
  induction a with
  | nil => simp [dv]
  | cons x a ih =>
    simp only [List.cons_append, dv, ih, List.length_cons, Nat.pow_succ]
    rw [Nat.mul_add, Nat.mul_comm (10 ^ a.length) 10, Nat.mul_assoc]
    omega
theorem dv_split (a : List Nat) (k : Nat) (hk : k ≤ a.length) : dv a = dv (a.take k) + 10 ^ k * dv (a.drop k) := by
  have h := dv_append (a.take k) (a.drop k)
  rw [List.take_append_drop, List.length_take, Nat.min_eq_left hk] at h
  exact h
theorem dv_drop (a : List Nat) (k : Nat) (hk : k < a.length) : dv (a.drop k) = a.getD k 0 + 10 * dv (a.drop (k + 1)) := by
  rw [List.drop_eq_getElem_cons hk]
  simp [dv, List.getD_eq_getElem?_getD, hk]
/-- The shorter one is less. -/
theorem dv_shorter {a b : List Nat} (ha : ∀ d ∈ a, d < 10) (hb : Norm b) (h : a.length < b.length) : dv a < dv b := by
  rcases hb with rfl | hb
  · simp at h
  · have h0 : b ≠ [] := by intro e; subst e; simp at h
    have h1 := dv_ge h0 hb
    have h2 := dv_lt ha
    have h3 : 10 ^ a.length ≤ 10 ^ (b.length - 1) := Nat.pow_le_pow_right (by decide) (by omega)
    omega
theorem len_le {a b : List Nat} (ha : ∀ d ∈ a, d < 10) (hb : Norm b) (h : dv b ≤ dv a) : b.length ≤ a.length := by
  rcases Nat.lt_or_ge a.length b.length with c | c
  · have := dv_shorter ha hb c; omega
  · exact c
/-- The first digit from above that is less. -/
theorem dv_first {a b : List Nat} {p : Nat} (ha : ∀ d ∈ a, d < 10) (hl : a.length = b.length) (hp : p < a.length) (he : a.drop (p + 1) = b.drop (p + 1)) (hlt : a.getD p 0 < b.getD p 0) : dv a < dv b := by
  have h1 := dv_split a p (by omega)
  have h2 := dv_split b p (by omega)
  rw [dv_drop a p hp] at h1
  rw [dv_drop b p (by omega), ← he] at h2
  have h3 : dv (a.take p) < 10 ^ p := by
    have := dv_lt (l := a.take p) fun d hd => ha d (List.mem_of_mem_take hd)
    rwa [List.length_take, Nat.min_eq_left (by omega)] at this
  have h4 : 10 ^ p * (a.getD p 0 + 10 * dv (a.drop (p + 1))) + 10 ^ p ≤ 10 ^ p * (b.getD p 0 + 10 * dv (a.drop (p + 1))) := by
    rw [← Nat.mul_succ]
    exact Nat.mul_le_mul_left _ (by omega)
  omega
theorem bel_drewN {B : Nat} {a w : World} (h : Below B a w) (n : Nat) : Below B a (w.drewN n) := ⟨h.os, h.tape, h.output, h.size, h.block⟩
theorem ret_at {n k : Int} (h : n = k) : IsInt n (.int .i64 k) := by rw [IsInt, h]
theorem cmpI_gt {m n : Nat} (h : n < m) : cmpI m n = 1 := by
  unfold cmpI
  rw [if_neg (by omega), if_neg (by omega)]
theorem cmpI_eq {m n : Nat} (h : m = n) : cmpI m n = 0 := by
  unfold cmpI
  rw [if_pos h]
theorem drop_eq_s {a b : List Nat} {p : Nat} (ha : p < a.length) (hb : p < b.length) (h : a.drop (p + 1) = b.drop (p + 1)) (he : a.getD p 0 = b.getD p 0) : a.drop p = b.drop p := by
  rw [List.drop_eq_getElem_cons ha, List.drop_eq_getElem_cons hb, h]
  simp [List.getD_eq_getElem?_getD, ha, hb] at he
  rw [he]

def CmpRel (a b : List Nat) (n : Nat) (s : Value) : Prop := ∃ q : Int, -1 ≤ q ∧ q < n ∧ s = .int .i64 q ∧ a.drop (q + 1).toNat = b.drop (q + 1).toNat

end Go.Proofs.YtkaflkofffgndaaDoor

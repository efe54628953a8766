/- Plain facts: long multiplication by halves of words. -/
import Derived.Test.YtkaflkofffgndaaDoorPlain3
namespace Go.Proofs.YtkaflkofffgndaaDoor

/-- The value of halves, the lowest first. -/
def val32 : List Nat → Nat
  | [] => 0
  | x :: l => x + 4294967296 * val32 l
/-- A number's i-th half. -/
def dg (X i : Nat) : Nat := X / 4294967296 ^ i % 4294967296
def R32 (i : Nat) : Nat := 4294967296 ^ i
theorem R32_succ (i : Nat) : R32 (i + 1) = R32 i * 4294967296 := Nat.pow_succ _ _
theorem R32_pos (i : Nat) : 0 < R32 i := Nat.pow_pos (by decide)
theorem dg_lt (X i : Nat) : dg X i < 4294967296 := Nat.mod_lt _ (by decide)
theorem mod_dg (X i : Nat) : X % R32 (i + 1) = X % R32 i + R32 i * dg X i := by
  unfold R32 dg
  rw [Nat.pow_succ, Nat.mod_mul]
theorem val32_set (l : List Nat) (k v : Nat) (h : k < l.length) : val32 (l.set k v) + l.getD k 0 * R32 k = val32 l + v * R32 k := by
  induction l generalizing k with
  | nil => simp at h
  | cons x l ih =>
    cases k with
    | zero => simp [val32, R32]; omega
    | succ k =>
      have := ih k (by simpa using h)
      simp only [List.set_cons_succ, val32, List.getD_cons_succ, R32_succ]
      generalize l.getD k 0 = a at *
      generalize R32 k = r at *
      rw [← Nat.mul_assoc, ← Nat.mul_assoc]
      omega

/-- What holds in the midst of the multiplication: i whole rounds, j halves of the next one, c carried. -/
def MulI (X Y i j c : Nat) (l : List Nat) : Prop :=
  l.length = 8 ∧ (∀ x ∈ l, x < 4294967296) ∧ c < 4294967296 ∧ (∀ k, i + 4 ≤ k → l.getD k 0 = 0) ∧
    val32 l + c * R32 (i + j) = X % R32 i * Y + dg X i * R32 i * (Y % R32 j)

theorem getD_lt {l : List Nat} (h : ∀ x ∈ l, x < 4294967296) (k : Nat) : l.getD k 0 < 4294967296 := by
  rw [List.getD_eq_getElem?_getD]
  cases e : l[k]? with
  | none => simp
  | some v => simpa using h v (List.mem_of_getElem? e)
theorem mem_set {l : List Nat} {k v : Nat} (h : ∀ x ∈ l, x < 4294967296) (hv : v < 4294967296) : ∀ x ∈ l.set k v, x < 4294967296 := by
  intro x hx
  rcases List.mem_or_eq_of_mem_set hx with h1 | h1
  · exact h x h1
  · rw [h1]; exact hv
theorem getD_set_ne {l : List Nat} {k v m : Nat} (h : k ≠ m) : (l.set k v).getD m 0 = l.getD m 0 := by
  rw [List.getD_eq_getElem?_getD, List.getD_eq_getElem?_getD, List.getElem?_set_ne h]

theorem mulI_zero (X Y : Nat) : MulI X Y 0 0 0 [0, 0, 0, 0, 0, 0, 0, 0] := by
  refine ⟨rfl, by simp, by decide, ?_, ?_⟩
  · intro k _
    rw [List.getD_eq_getElem?_getD]
    cases e : [0, 0, 0, 0, 0, 0, 0, 0][k]? with
    | none => rfl
    | some v => have := List.mem_of_getElem? e; simp at this; simp [this]
  · simp [val32, R32, Nat.mod_one]

/-- One half more. -/
theorem mulI_step {X Y i j c s : Nat} {l : List Nat} (hi : i < 4) (hj : j < 4) (h : MulI X Y i j c l) (hs : s = dg X i * dg Y j + l.getD (i + j) 0 + c) :
    s < 18446744073709551616 ∧ MulI X Y i (j + 1) (s / 4294967296) (l.set (i + j) (s % 4294967296)) := by
  obtain ⟨h1, h2, h3, h4, h5⟩ := h
  have a1 := dg_lt X i
  have a2 := dg_lt Y j
  have a3 := getD_lt h2 (i + j)
  have a4 : dg X i * dg Y j ≤ 4294967295 * 4294967295 := Nat.mul_le_mul (by omega) (by omega)
  have hb : s < 18446744073709551616 := by omega
  refine ⟨hb, by simpa using h1, mem_set h2 (Nat.mod_lt _ (by decide)), by omega, ?_, ?_⟩
  · intro k hk
    rw [getD_set_ne (by omega)]
    exact h4 k hk
  · have e := val32_set l (i + j) (s % 4294967296) (by omega)
    rw [← Nat.add_assoc, R32_succ, mod_dg]
    have es : s % 4294967296 * R32 (i + j) + s / 4294967296 * (R32 (i + j) * 4294967296) = s * R32 (i + j) := by
      rw [Nat.mul_comm (R32 (i + j)), ← Nat.mul_assoc, ← Nat.add_mul, Nat.mul_comm (s / 4294967296)]
      rw [Nat.mod_add_div]
    have e2 : s * R32 (i + j) = dg X i * dg Y j * R32 (i + j) + l.getD (i + j) 0 * R32 (i + j) + c * R32 (i + j) := by
      rw [hs, Nat.add_mul, Nat.add_mul]
    have e3 : dg X i * dg Y j * R32 (i + j) = dg X i * R32 i * (R32 j * dg Y j) := by
      have : R32 (i + j) = R32 i * R32 j := Nat.pow_add _ _ _
      rw [this]
      simp only [Nat.mul_assoc, Nat.mul_left_comm, Nat.mul_comm]
    rw [Nat.mul_add (dg X i * R32 i)]
    generalize dg X i * R32 i * (R32 j * dg Y j) = q at *
    generalize dg X i * R32 i * (Y % R32 j) = q2 at *
    generalize X % R32 i * Y = q3 at *
    generalize dg X i * dg Y j * R32 (i + j) = q4 at *
    generalize l.getD (i + j) 0 * R32 (i + j) = q5 at *
    generalize s / 4294967296 * (R32 (i + j) * 4294967296) = q6 at *
    generalize s % 4294967296 * R32 (i + j) = q7 at *
    generalize c * R32 (i + j) = q8 at *
    omega

/-- A whole round more. -/
theorem mulI_next {X Y i c : Nat} {l : List Nat} (hi : i < 4) (hY : Y < 340282366920938463463374607431768211456) (h : MulI X Y i 4 c l) : MulI X Y (i + 1) 0 0 (l.set (i + 4) c) := by
  obtain ⟨h1, h2, h3, h4, h5⟩ := h
  refine ⟨by simpa using h1, mem_set h2 h3, by decide, ?_, ?_⟩
  · intro k hk
    rw [getD_set_ne (by omega)]
    exact h4 k (by omega)
  · have e := val32_set l (i + 4) c (by omega)
    rw [h4 (i + 4) (by omega)] at e
    have e4 : Y % R32 4 = Y := Nat.mod_eq_of_lt (by unfold R32; omega)
    have e0 : Y % R32 0 = 0 := by simp [R32, Nat.mod_one]
    rw [e4] at h5
    rw [e0, Nat.mul_zero, Nat.zero_mul, Nat.add_zero, Nat.add_zero, mod_dg, Nat.add_mul, Nat.mul_comm (R32 i)]
    omega
theorem mulI_end {X Y c : Nat} {l : List Nat} (hX : X < 340282366920938463463374607431768211456) (h : MulI X Y 4 0 c l) : c = 0 → val32 l = X * Y := by
  obtain ⟨h1, h2, h3, h4, h5⟩ := h
  rintro rfl
  have e4 : X % R32 4 = X := Nat.mod_eq_of_lt (by unfold R32; omega)
  have e0 : Y % R32 0 = 0 := by simp [R32, Nat.mod_one]
  rw [e4, e0] at h5
  omega
end Go.Proofs.YtkaflkofffgndaaDoor

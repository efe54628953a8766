/- Plain facts: long division bit by bit. -/
import Derived.Test.YtkaflkofffgndaaDoorPlain4
import Derived.WalkKit
namespace Go.Proofs.YtkaflkofffgndaaDoor

def val64 : List Nat → Nat
  | [] => 0
  | x :: l => x + 18446744073709551616 * val64 l
theorem pow64_succ (k : Nat) : 2 ^ (64 * (k + 1)) = 2 ^ (64 * k) * 18446744073709551616 := by
  rw [Nat.mul_add, Nat.pow_add]
theorem val64_set (l : List Nat) (k v : Nat) (h : k < l.length) : val64 (l.set k v) + l.getD k 0 * 2 ^ (64 * k) = val64 l + v * 2 ^ (64 * k) := by
  induction l generalizing k with
  | nil => simp at h
  | cons x l ih =>
    cases k with
    | zero => simp [val64]; omega
    | succ k =>
      have := ih k (by simpa using h)
      simp only [List.set_cons_succ, val64, List.getD_cons_succ, pow64_succ]
      generalize l.getD k 0 = a at *
      generalize 2 ^ (64 * k) = r at *
      rw [← Nat.mul_assoc, ← Nat.mul_assoc]
      omega
theorem val64_word (l : List Nat) (h : ∀ x ∈ l, x < 18446744073709551616) (k : Nat) : val64 l / 2 ^ (64 * k) % 18446744073709551616 = l.getD k 0 := by
  induction l generalizing k with
  | nil => simp [val64]
  | cons x l ih =>
    have hx : x < 18446744073709551616 := h x (by simp)
    cases k with
    | zero => simp [val64]; omega
    | succ k =>
      rw [pow64_succ, Nat.mul_comm, ← Nat.div_div_eq_div_mul]
      have e : val64 (x :: l) / 18446744073709551616 = val64 l := by
        simp only [val64]
        rw [Nat.add_mul_div_left _ _ (by decide), Nat.div_eq_of_lt hx, Nat.zero_add]
      rw [e, ih (fun y hy => h y (by simp [hy])) k]
      rfl
theorem getD_lt64 {l : List Nat} (h : ∀ x ∈ l, x < 18446744073709551616) (k : Nat) : l.getD k 0 < 18446744073709551616 := by
  rw [List.getD_eq_getElem?_getD]
  cases e : l[k]? with
  | none => simp
  | some v => simpa using h v (List.mem_of_getElem? e)
theorem mem_set64 {l : List Nat} {k v : Nat} (h : ∀ x ∈ l, x < 18446744073709551616) (hv : v < 18446744073709551616) : ∀ x ∈ l.set k v, x < 18446744073709551616 := by
  intro x hx
  rcases List.mem_or_eq_of_mem_set hx with h1 | h1
  · exact h x h1
  · rw [h1]; exact hv

/-- What holds ahead of bit x of the division. -/
def DivI (A B : Nat) (x : Int) (q : List Nat) (r0 r1 : Int) : Prop :=
  ∃ t : Nat, x = (t : Int) - 1 ∧ t ≤ 256 ∧ q.length = 4 ∧ (∀ y ∈ q, y < 18446744073709551616) ∧ U64 r0 ∧ U64 r1 ∧ val64 q = A / 2 ^ t / B * 2 ^ t ∧ v2 r0 r1 = A / 2 ^ t % B

theorem divI_start {A B n : Nat} (hn : n ≤ 256) (h : BitsN A n) (hB : 0 < B) : DivI A B ((n : Int) - 1) [0, 0, 0, 0] 0 0 := by
  refine ⟨n, rfl, hn, rfl, by simp, by simp [U64], by simp [U64], ?_, ?_⟩
  · rw [Nat.div_eq_of_lt h.1, Nat.zero_div, Nat.zero_mul]; rfl
  · rw [Nat.div_eq_of_lt h.1, Nat.mod_eq_of_lt hB]; rfl
theorem divI_end {A B : Nat} {x : Int} {q : List Nat} {r0 r1 : Int} (h : DivI A B x q r0 r1) (hx : x < 0) : val64 q = A / B ∧ v2 r0 r1 = A % B ∧ x = -1 := by
  obtain ⟨t, e, _, _, _, _, _, hq, hr⟩ := h
  obtain rfl : t = 0 := by omega
  rw [Nat.pow_zero, Nat.div_one, Nat.mul_one] at hq
  rw [Nat.pow_zero, Nat.div_one] at hr
  exact ⟨hq, hr, by omega⟩

/-- Bit k of A, out of its word. -/
theorem bit_of (l : List Nat) (h : ∀ x ∈ l, x < 18446744073709551616) (W s : Nat) (hs : s < 64) : l.getD W 0 / 2 ^ s % 2 = val64 l / 2 ^ (64 * W + s) % 2 := by
  rw [← val64_word l h W, Nat.pow_add, ← Nat.div_div_eq_div_mul]
  generalize val64 l / 2 ^ (64 * W) = m
  have e : 18446744073709551616 = 2 ^ s * 2 ^ (64 - s) := (pq s hs).symm
  have e2 : 2 ^ (64 - s) = 2 * 2 ^ (63 - s) := by
    have : 64 - s = (63 - s) + 1 := by omega
    rw [this, Nat.pow_succ, Nat.mul_comm]
  rw [e, Nat.mod_mul_right_div_self, e2, Nat.mod_mul_right_mod]
theorem bit_walk (x s : Nat) (hx : x < 18446744073709551616) : bits .and .u64 ((x : Int) / 2 ^ s) 1 = ((x / 2 ^ s % 2 : Nat) : Int) := by
  have h : x / 2 ^ s < 18446744073709551616 := Nat.lt_of_le_of_lt (Nat.div_le_self _ _) hx
  rw [cast_div_pow]
  have := u64_and_nat (x / 2 ^ s) 1 h (by decide)
  rw [nat_mask1] at this
  exact this

theorem half_step (A k : Nat) : A / 2 ^ k = 2 * (A / 2 ^ (k + 1)) + A / 2 ^ k % 2 := by
  rw [Nat.pow_succ, ← Nat.div_div_eq_div_mul]
  omega
theorem divI_no {A B k : Nat} {q : List Nat} {r0 r1 t0 t1 o b : Int} (hB : B < 340282366920938463463374607431768211456) (h : DivI A B k q r0 r1) (hb : b = ((A / 2 ^ k % 2 : Nat) : Int)) (hd : DoubleW r0 r1 b t0 t1 o) (hlt : 2 * v2 r0 r1 + A / 2 ^ k % 2 < B) :
    o = 0 ∧ v2 t0 t1 < B ∧ DivI A B ((k : Int) - 1) q t0 t1 := by
  obtain ⟨t, e, ht, hl, hw, u0, u1, hq, hr⟩ := h
  obtain rfl : t = k + 1 := by omega
  obtain ⟨d0, d1, ho, hd⟩ := hd
  have hs := half_step A k
  subst hb
  rw [Int.toNat_natCast] at hd
  have ho2 : o.toNat = 0 := by omega
  have ho3 : o = 0 := by omega
  rw [ho2, Nat.zero_mul, Nat.add_zero] at hd
  have hv := hd
  clear hd
  have hB0 : 0 < B := by omega
  have hm := Nat.div_add_mod (A / 2 ^ (k + 1)) B
  rw [← hr] at hm
  have hA : A / 2 ^ k = (2 * v2 r0 r1 + A / 2 ^ k % 2) + B * (2 * (A / 2 ^ (k + 1) / B)) := by
    rw [Nat.mul_left_comm]; omega
  refine ⟨ho3, by omega, k, rfl, by omega, hl, hw, d0, d1, ?_, ?_⟩
  · have : A / 2 ^ k / B = 2 * (A / 2 ^ (k + 1) / B) := by
      rw [hA, Nat.add_mul_div_left _ _ hB0, Nat.div_eq_of_lt hlt, Nat.zero_add]
    rw [hq, this]
    generalize A / 2 ^ (k + 1) / B = z
    rw [Nat.pow_succ, Nat.mul_comm (2 ^ k) 2, ← Nat.mul_assoc, Nat.mul_comm z]
  · have : A / 2 ^ k % B = 2 * v2 r0 r1 + A / 2 ^ k % 2 := by
      rw [hA, Nat.add_mul_mod_self_left]
      rw [← hA]
      exact Nat.mod_eq_of_lt hlt
    rw [this, hv]
theorem or_bit {x s m : Nat} (hs : s < 64) (hx : x = m * 2 ^ (s + 1) % 18446744073709551616) : x ||| 2 ^ s = x + 2 ^ s := by
  refine nat_join (s + 1) x (2 ^ s) ?_ (by rw [Nat.pow_succ]; have := Nat.pow_pos (n := s) (show 0 < 2 by decide); omega)
  rw [hx]
  have e : 18446744073709551616 = 2 ^ (s + 1) * 2 ^ (63 - s) := by
    rw [← Nat.pow_add]
    have : s + 1 + (63 - s) = 64 := by omega
    rw [this]
  rw [e, Nat.mod_mul_right_mod, Nat.mul_mod_left]
theorem divI_yes {A k W s : Nat} {q : List Nat} {b0 b1 r0 r1 t0 t1 o b s0 s1 : Int} (hb0 : U64 b0) (hb1 : U64 b1) (hB0 : 0 < v2 b0 b1) (hW : W < q.length) (hs : s < 64) (hk : k = 64 * W + s)
    (h : DivI A (v2 b0 b1) k q r0 r1) (hb : b = ((A / 2 ^ k % 2 : Nat) : Int)) (hd : DoubleW r0 r1 b t0 t1 o) (hge : v2 b0 b1 ≤ 2 * v2 r0 r1 + A / 2 ^ k % 2) (hsub : SubW t0 t1 b0 b1 s0 s1) :
    q.getD W 0 ||| 2 ^ s < 18446744073709551616 ∧ DivI A (v2 b0 b1) ((k : Int) - 1) (q.set W (q.getD W 0 ||| 2 ^ s)) s0 s1 := by
  obtain ⟨t, e, ht, hl, hw, u0, u1, hq, hr⟩ := h
  obtain rfl : t = k + 1 := by omega
  obtain ⟨d0, d1, ho, hd⟩ := hd
  obtain ⟨e0, e1, hsv⟩ := hsub
  have hst := half_step A k
  subst hb
  rw [Int.toNat_natCast] at hd
  have hB := v2_lt' hb0 hb1
  have hmod := Nat.mod_lt (A / 2 ^ (k + 1)) hB0
  rw [← hr] at hmod
  have hT := v2_lt' d0 d1
  generalize hBB : v2 b0 b1 = B at *
  have hsv2 : v2 s0 s1 + B = 2 * v2 r0 r1 + A / 2 ^ k % 2 := by
    have : o.toNat = 0 ∨ o.toNat = 1 := by omega
    rcases this with g | g <;> rw [g] at hd <;> omega
  have hm := Nat.div_add_mod (A / 2 ^ (k + 1)) B
  rw [← hr] at hm
  have hA : A / 2 ^ k = v2 s0 s1 + B * (2 * (A / 2 ^ (k + 1) / B) + 1) := by
    rw [Nat.mul_add, Nat.mul_left_comm]; omega
  have hlt : v2 s0 s1 < B := by omega
  have hwd : q.getD W 0 = (A / 2 ^ (k + 1) / B) * 2 ^ (s + 1) % 18446744073709551616 := by
    rw [← val64_word q hw W, hq]
    have : k + 1 = 64 * W + (s + 1) := by omega
    rw [this, Nat.pow_add, Nat.mul_comm (2 ^ (64 * W)), ← Nat.mul_assoc, Nat.mul_div_cancel _ (Nat.pow_pos (by decide))]
  have hor := or_bit hs hwd
  have hps := pow_le_64 s hs
  have hlt2 : q.getD W 0 ||| 2 ^ s < 2 ^ 64 := Nat.or_lt_two_pow (getD_lt64 hw W) (by omega)
  refine ⟨hlt2, k, rfl, by omega, by simpa using hl, mem_set64 hw hlt2, e0, e1, ?_, ?_⟩
  · have hv := val64_set q W (q.getD W 0 ||| 2 ^ s) hW
    rw [hor, Nat.add_mul, ← Nat.pow_add] at hv
    have : A / 2 ^ k / B = 2 * (A / 2 ^ (k + 1) / B) + 1 := by
      rw [hA, Nat.add_mul_div_left _ _ hB0, Nat.div_eq_of_lt hlt, Nat.zero_add]
    rw [this, Nat.add_mul, Nat.one_mul]
    have h2 : 2 * (A / 2 ^ (k + 1) / B) * 2 ^ k = val64 q := by
      rw [hq, Nat.pow_succ, Nat.mul_comm (2 ^ k) 2, ← Nat.mul_assoc, Nat.mul_comm 2]
    rw [h2, hor]
    have : s + 64 * W = k := by omega
    rw [this] at hv
    omega
  · have : A / 2 ^ k % B = v2 s0 s1 := by
      rw [hA, Nat.add_mul_mod_self_left]
      exact Nat.mod_eq_of_lt hlt
    rw [this]
end Go.Proofs.YtkaflkofffgndaaDoor

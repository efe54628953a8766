/- Plain facts: long multiplication by halves of words. -/
/- Contract: Mul. -/
/- Plain facts: long division bit by bit. -/
import Derived.Test.YtakofbkbbmpfeaaPlain3
import Derived.Test.YtakofbkbbmpfeaaHoldB
import Derived.Test.YtakofbkbbmpfeaaLimbE
import Derived.Test.YtakofbkbbmpfeaaBlk
import Derived.Deep.DeepCutAuto
import Derived.Deep.RegionHeld3
import Derived.WalkKit
namespace Go.Proofs.Ytakofbkbbmpfeaa

/-- The value of halves, the lowest first. -/
def val32 : List Nat → Nat
  | [] => 0
  | x :: l => x + 4294967296 * val32 l
/-- A number's i-th half. -/
def dg (X i : Nat) : Nat := X / 4294967296 ^ i % 4294967296
def R32 (i : Nat) : Nat := 4294967296 ^ i
theorem R32_succ (i : Nat) : R32 (i + 1) = R32 i * 4294967296 := Nat.pow_succ _ _
theorem R32_pos (i : Nat) : 0 < R32 i := Nat.pow_pos (by decide)
theorem dg_lt (X i : Nat) : dg X i < 4294967296 := Nat.mod_lt _ (by decide)
theorem mod_dg (X i : Nat) : X % R32 (i + 1) = X % R32 i + R32 i * dg X i := by
  unfold R32 dg
  rw [Nat.pow_succ, Nat.mod_mul]
theorem val32_set (l : List Nat) (k v : Nat) (h : k < l.length) : val32 (l.set k v) + l.getD k 0 * R32 k = val32 l + v * R32 k := by
  induction l generalizing k with
  | nil => simp at h
  | cons x l ih =>
    cases k with
    | zero => simp [val32, R32]; omega
    | succ k =>
      have := ih k (by simpa using h)
      simp only [List.set_cons_succ, val32, List.getD_cons_succ, R32_succ]
      generalize l.getD k 0 = a at *
      generalize R32 k = r at *
      rw [← Nat.mul_assoc, ← Nat.mul_assoc]
      omega

/-- What holds in the midst of the multiplication: i whole rounds, j halves of the next one, c carried. -/
def MulI (X Y i j c : Nat) (l : List Nat) : Prop :=
  l.length = 8 ∧ (∀ x ∈ l, x < 4294967296) ∧ c < 4294967296 ∧ (∀ k, i + 4 ≤ k → l.getD k 0 = 0) ∧
    val32 l + c * R32 (i + j) = X % R32 i * Y + dg X i * R32 i * (Y % R32 j)

theorem getD_lt {l : List Nat} (h : ∀ x ∈ l, x < 4294967296) (k : Nat) : l.getD k 0 < 4294967296 := by
  rw [List.getD_eq_getElem?_getD]
  cases e : l[k]? with
  | none => simp
  | some v => simpa using h v (List.mem_of_getElem? e)
theorem mem_set {l : List Nat} {k v : Nat} (h : ∀ x ∈ l, x < 4294967296) (hv : v < 4294967296) : ∀ x ∈ l.set k v, x < 4294967296 := by
  intro x hx
  rcases List.mem_or_eq_of_mem_set hx with h1 | h1
  · exact h x h1
  · rw [h1]; exact hv
theorem getD_set_ne {l : List Nat} {k v m : Nat} (h : k ≠ m) : (l.set k v).getD m 0 = l.getD m 0 := by
  rw [List.getD_eq_getElem?_getD, List.getD_eq_getElem?_getD, List.getElem?_set_ne h]

theorem mulI_zero (X Y : Nat) : MulI X Y 0 0 0 [0, 0, 0, 0, 0, 0, 0, 0] := by
  refine ⟨rfl, by simp, by decide, ?_, ?_⟩
  · intro k _
    rw [List.getD_eq_getElem?_getD]
    cases e : [0, 0, 0, 0, 0, 0, 0, 0][k]? with
    | none => rfl
    | some v => have := List.mem_of_getElem? e; simp at this; simp [this]
  · simp [val32, R32, Nat.mod_one]

/-- One half more. -/
theorem mulI_step {X Y i j c s : Nat} {l : List Nat} (hi : i < 4) (hj : j < 4) (h : MulI X Y i j c l) (hs : s = dg X i * dg Y j + l.getD (i + j) 0 + c) :
    s < 18446744073709551616 ∧ MulI X Y i (j + 1) (s / 4294967296) (l.set (i + j) (s % 4294967296)) := by
  obtain ⟨h1, h2, h3, h4, h5⟩ := h
  have a1 := dg_lt X i
  have a2 := dg_lt Y j
  have a3 := getD_lt h2 (i + j)
  have a4 : dg X i * dg Y j ≤ 4294967295 * 4294967295 := Nat.mul_le_mul (by omega) (by omega)
  have hb : s < 18446744073709551616 := by omega
  refine ⟨hb, by simpa using h1, mem_set h2 (Nat.mod_lt _ (by decide)), by omega, ?_, ?_⟩
  · intro k hk
    rw [getD_set_ne (by omega)]
    exact h4 k hk
  · have e := val32_set l (i + j) (s % 4294967296) (by omega)
    rw [← Nat.add_assoc, R32_succ, mod_dg]
    have es : s % 4294967296 * R32 (i + j) + s / 4294967296 * (R32 (i + j) * 4294967296) = s * R32 (i + j) := by
      rw [Nat.mul_comm (R32 (i + j)), ← Nat.mul_assoc, ← Nat.add_mul, Nat.mul_comm (s / 4294967296)]
      rw [Nat.mod_add_div]
    have e2 : s * R32 (i + j) = dg X i * dg Y j * R32 (i + j) + l.getD (i + j) 0 * R32 (i + j) + c * R32 (i + j) := by
      rw [hs, Nat.add_mul, Nat.add_mul]
    have e3 : dg X i * dg Y j * R32 (i + j) = dg X i * R32 i * (R32 j * dg Y j) := by
      have : R32 (i + j) = R32 i * R32 j := Nat.pow_add _ _ _
      rw [this]
      simp only [Nat.mul_assoc, Nat.mul_left_comm, Nat.mul_comm]
    rw [Nat.mul_add (dg X i * R32 i)]
    generalize dg X i * R32 i * (R32 j * dg Y j) = q at *
    generalize dg X i * R32 i * (Y % R32 j) = q2 at *
    generalize X % R32 i * Y = q3 at *
    generalize dg X i * dg Y j * R32 (i + j) = q4 at *
    generalize l.getD (i + j) 0 * R32 (i + j) = q5 at *
    generalize s / 4294967296 * (R32 (i + j) * 4294967296) = q6 at *
    generalize s % 4294967296 * R32 (i + j) = q7 at *
    generalize c * R32 (i + j) = q8 at *
    omega

/-- A whole round more. -/
theorem mulI_next {X Y i c : Nat} {l : List Nat} (hi : i < 4) (hY : Y < 340282366920938463463374607431768211456) (h : MulI X Y i 4 c l) : MulI X Y (i + 1) 0 0 (l.set (i + 4) c) := by
  obtain ⟨h1, h2, h3, h4, h5⟩ := h
  refine ⟨by simpa using h1, mem_set h2 h3, by decide, ?_, ?_⟩
  · intro k hk
    rw [getD_set_ne (by omega)]
    exact h4 k (by omega)
  · have e := val32_set l (i + 4) c (by omega)
    rw [h4 (i + 4) (by omega)] at e
    have e4 : Y % R32 4 = Y := Nat.mod_eq_of_lt (by unfold R32; omega)
    have e0 : Y % R32 0 = 0 := by simp [R32, Nat.mod_one]
    rw [e4] at h5
    rw [e0, Nat.mul_zero, Nat.zero_mul, Nat.add_zero, Nat.add_zero, mod_dg, Nat.add_mul, Nat.mul_comm (R32 i)]
    omega
theorem mulI_end {X Y c : Nat} {l : List Nat} (hX : X < 340282366920938463463374607431768211456) (h : MulI X Y 4 0 c l) : c = 0 → val32 l = X * Y := by
  obtain ⟨h1, h2, h3, h4, h5⟩ := h
  rintro rfl
  have e4 : X % R32 4 = X := Nat.mod_eq_of_lt (by unfold R32; omega)
  have e0 : Y % R32 0 = 0 := by simp [R32, Nat.mod_one]
  rw [e4, e0] at h5
  omega
end Go.Proofs.Ytakofbkbbmpfeaa

namespace Go.Proofs.Ytakofbkbbmpfeaa
open Go.RowKit

/-- Four halves of a number. -/
def HalvesN (X x0 x1 x2 x3 : Nat) : Prop := x0 < 4294967296 ∧ x1 < 4294967296 ∧ x2 < 4294967296 ∧ x3 < 4294967296 ∧ X = x0 + x1 * 4294967296 + x2 * 18446744073709551616 + x3 * 79228162514264337593543950336
theorem halvesN_of {a b : Int} {x0 x1 x2 x3 : Nat} (ha : U64 a) (hb : U64 b) (h : HalvesW a b x0 x1 x2 x3) : HalvesN (v2 a b) x0 x1 x2 x3 := by
  unfold HalvesW U32 U64 at *
  unfold HalvesN v2
  omega
def mk32 (n : Nat) : Value := .int .u32 n
theorem sum32 (A B p k : Nat) (hA : A < 4294967296) (hB : B < 4294967296) (hp : p < 4294967296) (hk : k < 4294967296) :
    IntKind.u64.wrap (IntKind.u64.wrap (IntKind.u64.wrap (IntKind.u64.wrap (A : Int) * IntKind.u64.wrap (B : Int)) + IntKind.u64.wrap (p : Int)) + (k : Int)) = ((A * B + p + k : Nat) : Int) := by
  have h : A * B ≤ 4294967295 * 4294967295 := Nat.mul_le_mul (by omega) (by omega)
  have e1 : IntKind.u64.wrap (A : Int) = (A : Int) := by rw [IntKind.wrap_u64]; omega
  have e2 : IntKind.u64.wrap (B : Int) = (B : Int) := by rw [IntKind.wrap_u64]; omega
  have e3 : IntKind.u64.wrap (p : Int) = (p : Int) := by rw [IntKind.wrap_u64]; omega
  have e4 : (A : Int) * (B : Int) = ((A * B : Nat) : Int) := by rw [Int.natCast_mul]
  rw [e1, e2, e3, e4]
  generalize A * B = q at *
  simp only [IntKind.wrap_u64]
  omega
theorem u32_of {x : Nat} (h : x < 4294967296) : U32 (x : Int) := by unfold U32; omega
theorem map_set32 (l : List Nat) (i v : Nat) : ((l.map mk32).toArray.setIfInBounds i (mk32 v)) = ((l.set i v).map mk32).toArray := by
  simp [List.map_set]
theorem isWords {l : List Nat} (h : l.length = 8) : ∃ p0 p1 p2 p3 p4 p5 p6 p7, l = [p0, p1, p2, p3, p4, p5, p6, p7] := by
  match l, h with
  | [p0, p1, p2, p3, p4, p5, p6, p7], _ => exact ⟨_, _, _, _, _, _, _, _, rfl⟩
def MulR (a0 a1 b0 b1 x y z u : Int) : Prop := U64 x ∧ U64 y ∧ U64 z ∧ U64 u ∧ v4 x y z u = v2 a0 a1 * v2 b0 b1
theorem val32_8 (p0 p1 p2 p3 p4 p5 p6 p7 : Nat) : val32 [p0, p1, p2, p3, p4, p5, p6, p7] = p0 + p1 * 4294967296 + (p2 + p3 * 4294967296) * 18446744073709551616 + (p4 + p5 * 4294967296) * 340282366920938463463374607431768211456 + (p6 + p7 * 4294967296) * 6277101735386680763835789423207666416102355444464034512896 := by
  simp only [val32]
  omega
theorem v4_words {x y z u : Int} {p0 p1 p2 p3 p4 p5 p6 p7 : Nat} (hw : WordsR p0 p1 p2 p3 p4 p5 p6 p7 x y z u) : v4 x y z u = p0 + p1 * 4294967296 + (p2 + p3 * 4294967296) * 18446744073709551616 + (p4 + p5 * 4294967296) * 340282366920938463463374607431768211456 + (p6 + p7 * 4294967296) * 6277101735386680763835789423207666416102355444464034512896 := by
  obtain ⟨-, -, -, -, h0, h1, h2, h3⟩ := hw
  have e0 : x.toNat = p0 + p1 * 4294967296 := by omega
  have e1 : y.toNat = p2 + p3 * 4294967296 := by omega
  have e2 : z.toNat = p4 + p5 * 4294967296 := by omega
  have e3 : u.toNat = p6 + p7 * 4294967296 := by omega
  unfold v4 v2
  rw [e0, e1, e2, e3]
  clear h0 h1 h2 h3 e0 e1 e2 e3
  omega
theorem mulR_of {a0 a1 b0 b1 x y z u : Int} {p0 p1 p2 p3 p4 p5 p6 p7 : Nat} (h : val32 [p0, p1, p2, p3, p4, p5, p6, p7] = v2 a0 a1 * v2 b0 b1) (hw : WordsR p0 p1 p2 p3 p4 p5 p6 p7 x y z u) : MulR a0 a1 b0 b1 x y z u := by
  have e := v4_words hw
  rw [← val32_8] at e
  exact ⟨hw.1, hw.2.1, hw.2.2.1, hw.2.2.2.1, e.trans h⟩
theorem Blk.new_at {w : World} {g : Nat} {t : TypeId} {cs : Array Value} (h : g = w.heap.size) : Blk (w.alloc (.cells cs t)) g t cs := by subst h; exact Blk.new w t cs

end Go.Proofs.Ytakofbkbbmpfeaa

namespace Go.Proofs.Ytakofbkbbmpfeaa

def val64 : List Nat → Nat
  | [] => 0
  | x :: l => x + 18446744073709551616 * val64 l
theorem pow64_succ (k : Nat) : 2 ^ (64 * (k + 1)) = 2 ^ (64 * k) * 18446744073709551616 := by
  rw [Nat.mul_add, Nat.pow_add]
theorem val64_set (l : List Nat) (k v : Nat) (h : k < l.length) : val64 (l.set k v) + l.getD k 0 * 2 ^ (64 * k) = val64 l + v * 2 ^ (64 * k) := by
  induction l generalizing k with
  | nil => simp at h
  | cons x l ih =>
    cases k with
    | zero => simp [val64]; omega
    | succ k =>
      have := ih k (by simpa using h)
      simp only [List.set_cons_succ, val64, List.getD_cons_succ, pow64_succ]
      generalize l.getD k 0 = a at *
      generalize 2 ^ (64 * k) = r at *
      rw [← Nat.mul_assoc, ← Nat.mul_assoc]
      omega
theorem val64_word (l : List Nat) (h : ∀ x ∈ l, x < 18446744073709551616) (k : Nat) : val64 l / 2 ^ (64 * k) % 18446744073709551616 = l.getD k 0 := by
  induction l generalizing k with
  | nil => simp [val64]
  | cons x l ih =>
    have hx : x < 18446744073709551616 := h x (by simp)
    cases k with
    | zero => simp [val64]; omega
    | succ k =>
      rw [pow64_succ, Nat.mul_comm, ← Nat.div_div_eq_div_mul]
      have e : val64 (x :: l) / 18446744073709551616 = val64 l := by
        simp only [val64]
        rw [Nat.add_mul_div_left _ _ (by decide), Nat.div_eq_of_lt hx, Nat.zero_add]
      rw [e, ih (fun y hy => h y (by simp [hy])) k]
      rfl
theorem getD_lt64 {l : List Nat} (h : ∀ x ∈ l, x < 18446744073709551616) (k : Nat) : l.getD k 0 < 18446744073709551616 := by
  rw [List.getD_eq_getElem?_getD]
  cases e : l[k]? with
  | none => simp
  | some v => simpa using h v (List.mem_of_getElem? e)
theorem mem_set64 {l : List Nat} {k v : Nat} (h : ∀ x ∈ l, x < 18446744073709551616) (hv : v < 18446744073709551616) : ∀ x ∈ l.set k v, x < 18446744073709551616 := by
  intro x hx
  rcases List.mem_or_eq_of_mem_set hx with h1 | h1
  · exact h x h1
  · rw [h1]; exact hv

/-- What holds ahead of bit x of the division. -/
def DivI (A B : Nat) (x : Int) (q : List Nat) (r0 r1 : Int) : Prop :=
  ∃ t : Nat, x = (t : Int) - 1 ∧ t ≤ 256 ∧ q.length = 4 ∧ (∀ y ∈ q, y < 18446744073709551616) ∧ U64 r0 ∧ U64 r1 ∧ val64 q = A / 2 ^ t / B * 2 ^ t ∧ v2 r0 r1 = A / 2 ^ t % B

theorem divI_start {A B n : Nat} (hn : n ≤ 256) (h : BitsN A n) (hB : 0 < B) : DivI A B ((n : Int) - 1) [0, 0, 0, 0] 0 0 := by
  refine ⟨n, rfl, hn, rfl, by simp, by simp [U64], by simp [U64], ?_, ?_⟩
  · rw [Nat.div_eq_of_lt h.1, Nat.zero_div, Nat.zero_mul]; rfl
  · rw [Nat.div_eq_of_lt h.1, Nat.mod_eq_of_lt hB]; rfl
theorem divI_end {A B : Nat} {x : Int} {q : List Nat} {r0 r1 : Int} (h : DivI A B x q r0 r1) (hx : x < 0) : val64 q = A / B ∧ v2 r0 r1 = A % B ∧ x = -1 := by
  obtain ⟨t, e, _, _, _, _, _, hq, hr⟩ := h
  obtain rfl : t = 0 := by omega
  rw [Nat.pow_zero, Nat.div_one, Nat.mul_one] at hq
  rw [Nat.pow_zero, Nat.div_one] at hr
  exact ⟨hq, hr, by omega⟩

/-- Bit k of A, out of its word. -/
theorem bit_of (l : List Nat) (h : ∀ x ∈ l, x < 18446744073709551616) (W s : Nat) (hs : s < 64) : l.getD W 0 / 2 ^ s % 2 = val64 l / 2 ^ (64 * W + s) % 2 := by
  rw [← val64_word l h W, Nat.pow_add, ← Nat.div_div_eq_div_mul]
  generalize val64 l / 2 ^ (64 * W) = m
  have e : 18446744073709551616 = 2 ^ s * 2 ^ (64 - s) := (pq s hs).symm
  have e2 : 2 ^ (64 - s) = 2 * 2 ^ (63 - s) := by
    have : 64 - s = (63 - s) + 1 := by omega
    rw [this, Nat.pow_succ, Nat.mul_comm]
  rw [e, Nat.mod_mul_right_div_self, e2, Nat.mod_mul_right_mod]
theorem bit_walk (x s : Nat) (hx : x < 18446744073709551616) : bits .and .u64 ((x : Int) / 2 ^ s) 1 = ((x / 2 ^ s % 2 : Nat) : Int) := by
  have h : x / 2 ^ s < 18446744073709551616 := Nat.lt_of_le_of_lt (Nat.div_le_self _ _) hx
  rw [cast_div_pow]
  have := u64_and_nat (x / 2 ^ s) 1 h (by decide)
  rw [nat_mask1] at this
  exact this

theorem half_step (A k : Nat) : A / 2 ^ k = 2 * (A / 2 ^ (k + 1)) + A / 2 ^ k % 2 := by
  rw [Nat.pow_succ, ← Nat.div_div_eq_div_mul]
  omega
theorem divI_no {A B k : Nat} {q : List Nat} {r0 r1 t0 t1 o b : Int} (hB : B < 340282366920938463463374607431768211456) (h : DivI A B k q r0 r1) (hb : b = ((A / 2 ^ k % 2 : Nat) : Int)) (hd : DoubleW r0 r1 b t0 t1 o) (hlt : 2 * v2 r0 r1 + A / 2 ^ k % 2 < B) :
    o = 0 ∧ v2 t0 t1 < B ∧ DivI A B ((k : Int) - 1) q t0 t1 := by
  obtain ⟨t, e, ht, hl, hw, u0, u1, hq, hr⟩ := h
  obtain rfl : t = k + 1 := by omega
  obtain ⟨d0, d1, ho, hd⟩ := hd
  have hs := half_step A k
  subst hb
  rw [Int.toNat_natCast] at hd
  have ho2 : o.toNat = 0 := by omega
  have ho3 : o = 0 := by omega
  rw [ho2, Nat.zero_mul, Nat.add_zero] at hd
  have hv := hd
  clear hd
  have hB0 : 0 < B := by omega
  have hm := Nat.div_add_mod (A / 2 ^ (k + 1)) B
  rw [← hr] at hm
  have hA : A / 2 ^ k = (2 * v2 r0 r1 + A / 2 ^ k % 2) + B * (2 * (A / 2 ^ (k + 1) / B)) := by
    rw [Nat.mul_left_comm]; omega
  refine ⟨ho3, by omega, k, rfl, by omega, hl, hw, d0, d1, ?_, ?_⟩
  · have : A / 2 ^ k / B = 2 * (A / 2 ^ (k + 1) / B) := by
      rw [hA, Nat.add_mul_div_left _ _ hB0, Nat.div_eq_of_lt hlt, Nat.zero_add]
    rw [hq, this]
    generalize A / 2 ^ (k + 1) / B = z
    rw [Nat.pow_succ, Nat.mul_comm (2 ^ k) 2, ← Nat.mul_assoc, Nat.mul_comm z]
  · have : A / 2 ^ k % B = 2 * v2 r0 r1 + A / 2 ^ k % 2 := by
      rw [hA, Nat.add_mul_mod_self_left]
      rw [← hA]
      exact Nat.mod_eq_of_lt hlt
    rw [this, hv]
theorem or_bit {x s m : Nat} (hs : s < 64) (hx : x = m * 2 ^ (s + 1) % 18446744073709551616) : x ||| 2 ^ s = x + 2 ^ s := by
  refine nat_join (s + 1) x (2 ^ s) ?_ (by rw [Nat.pow_succ]; have := Nat.pow_pos (n := s) (show 0 < 2 by decide); omega)
  rw [hx]
  have e : 18446744073709551616 = 2 ^ (s + 1) * 2 ^ (63 - s) := by
    rw [← Nat.pow_add]
    have : s + 1 + (63 - s) = 64 := by omega
    rw [this]
  rw [e, Nat.mod_mul_right_mod, Nat.mul_mod_left]
theorem divI_yes {A k W s : Nat} {q : List Nat} {b0 b1 r0 r1 t0 t1 o b s0 s1 : Int} (hb0 : U64 b0) (hb1 : U64 b1) (hB0 : 0 < v2 b0 b1) (hW : W < q.length) (hs : s < 64) (hk : k = 64 * W + s)
    (h : DivI A (v2 b0 b1) k q r0 r1) (hb : b = ((A / 2 ^ k % 2 : Nat) : Int)) (hd : DoubleW r0 r1 b t0 t1 o) (hge : v2 b0 b1 ≤ 2 * v2 r0 r1 + A / 2 ^ k % 2) (hsub : SubW t0 t1 b0 b1 s0 s1) :
    q.getD W 0 ||| 2 ^ s < 18446744073709551616 ∧ DivI A (v2 b0 b1) ((k : Int) - 1) (q.set W (q.getD W 0 ||| 2 ^ s)) s0 s1 := by
  obtain ⟨t, e, ht, hl, hw, u0, u1, hq, hr⟩ := h
  obtain rfl : t = k + 1 := by omega
  obtain ⟨d0, d1, ho, hd⟩ := hd
  obtain ⟨e0, e1, hsv⟩ := hsub
  have hst := half_step A k
  subst hb
  rw [Int.toNat_natCast] at hd
  have hB := v2_lt' hb0 hb1
  have hmod := Nat.mod_lt (A / 2 ^ (k + 1)) hB0
  rw [← hr] at hmod
  have hT := v2_lt' d0 d1
  generalize hBB : v2 b0 b1 = B at *
  have hsv2 : v2 s0 s1 + B = 2 * v2 r0 r1 + A / 2 ^ k % 2 := by
    have : o.toNat = 0 ∨ o.toNat = 1 := by omega
    rcases this with g | g <;> rw [g] at hd <;> omega
  have hm := Nat.div_add_mod (A / 2 ^ (k + 1)) B
  rw [← hr] at hm
  have hA : A / 2 ^ k = v2 s0 s1 + B * (2 * (A / 2 ^ (k + 1) / B) + 1) := by
    rw [Nat.mul_add, Nat.mul_left_comm]; omega
  have hlt : v2 s0 s1 < B := by omega
  have hwd : q.getD W 0 = (A / 2 ^ (k + 1) / B) * 2 ^ (s + 1) % 18446744073709551616 := by
    rw [← val64_word q hw W, hq]
    have : k + 1 = 64 * W + (s + 1) := by omega
    rw [this, Nat.pow_add, Nat.mul_comm (2 ^ (64 * W)), ← Nat.mul_assoc, Nat.mul_div_cancel _ (Nat.pow_pos (by decide))]
  have hor := or_bit hs hwd
  have hps := pow_le_64 s hs
  have hlt2 : q.getD W 0 ||| 2 ^ s < 2 ^ 64 := Nat.or_lt_two_pow (getD_lt64 hw W) (by omega)
  refine ⟨hlt2, k, rfl, by omega, by simpa using hl, mem_set64 hw hlt2, e0, e1, ?_, ?_⟩
  · have hv := val64_set q W (q.getD W 0 ||| 2 ^ s) hW
    rw [hor, Nat.add_mul, ← Nat.pow_add] at hv
    have : A / 2 ^ k / B = 2 * (A / 2 ^ (k + 1) / B) + 1 := by
      rw [hA, Nat.add_mul_div_left _ _ hB0, Nat.div_eq_of_lt hlt, Nat.zero_add]
    rw [this, Nat.add_mul, Nat.one_mul]
    have h2 : 2 * (A / 2 ^ (k + 1) / B) * 2 ^ k = val64 q := by
      rw [hq, Nat.pow_succ, Nat.mul_comm (2 ^ k) 2, ← Nat.mul_assoc, Nat.mul_comm 2]
    rw [h2, hor]
    have : s + 64 * W = k := by omega
    rw [this] at hv
    omega
  · have : A / 2 ^ k % B = v2 s0 s1 := by
      rw [hA, Nat.add_mul_mod_self_left]
      exact Nat.mod_eq_of_lt hlt
    rw [this]
end Go.Proofs.Ytakofbkbbmpfeaa

/- Contracts of package limb's functions that call others, of its shifts' parts and halves. -/
/- Plain facts on shifts of words. -/
/- Contracts: Short, Wide, double, shift, halves, bitsOfWord, Bits. -/
/- Contracts: Bits, words. -/
import Derived.Test.YtakofbkbbmpfeaaLimbA
import Derived.Lib.Hide
import Derived.RegionTactic
import Derived.BigRegion
namespace Go.Proofs.Ytakofbkbbmpfeaa
open Go.RowKit

def SubR (a0 a1 b0 b1 s0 s1 : Int) (p : Bool) : Prop :=
  U64 s0 ∧ U64 s1 ∧ (v2 b0 b1 ≤ v2 a0 a1 ∧ p = true ∧ v2 s0 s1 + v2 b0 b1 = v2 a0 a1 ∨ v2 a0 a1 < v2 b0 b1 ∧ p = false ∧ s0 = 0 ∧ s1 = 0)
theorem u64_0 : U64 0 := by simp [U64]
theorem u64_1 : U64 1 := by simp [U64]
theorem v2_lt {a b : Int} (ha : U64 a) (hb : U64 b) : v2 a b < 340282366920938463463374607431768211456 := by simp only [U64, v2] at *; omega
theorem subR_yes {a0 a1 b0 b1 s0 s1 : Int} (ha0 : U64 a0) (ha1 : U64 a1) (hb0 : U64 b0) (hb1 : U64 b1) (h : v2 b0 b1 ≤ v2 a0 a1) (hs : SubW a0 a1 b0 b1 s0 s1) : SubR a0 a1 b0 b1 s0 s1 true := by
  have := v2_lt ha0 ha1
  have := v2_lt hb0 hb1
  obtain ⟨h0, h1, h2⟩ := hs
  exact ⟨h0, h1, Or.inl ⟨h, rfl, by omega⟩⟩

theorem below3 {w w1 : World} {o1 o2 o3 : Obj} (hb : Below (((w.alloc o1).alloc o2).alloc o3).heap.size (((w.alloc o1).alloc o2).alloc o3) w1) : Below w.heap.size w w1 :=
  ((((Below.refl _ _).alloc (Nat.le_refl _) _).alloc (by simp) _).alloc (by simp; omega) _).trans (hb.mono (by simp; omega))

end Go.Proofs.Ytakofbkbbmpfeaa

namespace Go.Proofs.Ytakofbkbbmpfeaa

theorem or_join (i : Nat) (x y : Nat) (hx : x % 2 ^ i = 0) (hy : y < 2 ^ i) (h1 : x < 18446744073709551616) (h2 : y < 18446744073709551616) :
    bits .or .u64 (x : Int) (y : Int) = ((x + y : Nat) : Int) := by
  rw [u64_or_nat x y h1 h2, nat_join i x y hx hy]

def DoubleW (a0 a1 b t0 t1 o : Int) : Prop := U64 t0 ∧ U64 t1 ∧ (o = 0 ∨ o = 1) ∧ v2 t0 t1 + o.toNat * 340282366920938463463374607431768211456 = 2 * v2 a0 a1 + b.toNat
theorem doubleW_of (a0 a1 b : Int) (h0 : U64 a0) (h1 : U64 a1) (hb : b = 0 ∨ b = 1) :
    DoubleW a0 a1 b (bits .or .u64 (IntKind.u64.wrap (a0 * 2)) b) (bits .or .u64 (IntKind.u64.wrap (a1 * 2)) (a0 / 9223372036854775808)) (a1 / 9223372036854775808) := by
  obtain ⟨h00, h01⟩ := h0
  obtain ⟨h10, h11⟩ := h1
  obtain ⟨x, rfl⟩ := Int.eq_ofNat_of_zero_le h00
  obtain ⟨y, rfl⟩ := Int.eq_ofNat_of_zero_le h10
  obtain ⟨z, rfl⟩ : ∃ z : Nat, b = z := Int.eq_ofNat_of_zero_le (by omega)
  have e0 : IntKind.u64.wrap ((x : Int) * 2) = ((x * 2 % 18446744073709551616 : Nat) : Int) := by rw [IntKind.wrap_u64]; omega
  have e1 : IntKind.u64.wrap ((y : Int) * 2) = ((y * 2 % 18446744073709551616 : Nat) : Int) := by rw [IntKind.wrap_u64]; omega
  have e2 : (x : Int) / 9223372036854775808 = ((x / 9223372036854775808 : Nat) : Int) := by omega
  rw [e0, e1, e2, or_join 1 _ _ (by omega) (by omega) (by omega) (by omega), or_join 1 _ _ (by omega) (by omega) (by omega) (by omega)]
  unfold DoubleW U64 v2
  omega

/-- k brought within 0 to 256. -/
def clampK (k : Int) : Nat := if k < 0 then 0 else if 256 < k then 256 else k.toNat
def ShiftR (k s r : Int) : Prop := s * 64 + r = clampK k ∧ 0 ≤ s ∧ s ≤ 4 ∧ 0 ≤ r ∧ r < 64

/-- The halves of two words. -/
def HalvesW (a b h0 h1 h2 h3 : Int) : Prop := U32 h0 ∧ U32 h1 ∧ U32 h2 ∧ U32 h3 ∧ h0 + h1 * 4294967296 = a ∧ h2 + h3 * 4294967296 = b
theorem halvesW_of (a b : Int) (ha : U64 a) (hb : U64 b) : HalvesW a b (a % 4294967296) (a / 4294967296 % 4294967296) (b % 4294967296) (b / 4294967296 % 4294967296) := by
  unfold HalvesW U32 U64 at *
  omega

/-- How many bits. -/
def BitsN (m n : Nat) : Prop := m < 2 ^ n ∧ (0 < n → 2 ^ (n - 1) ≤ m)
theorem bitsN_unique {m n k : Nat} (h : BitsN m n) (g : BitsN m k) : n = k := by
  obtain ⟨h1, h2⟩ := h
  obtain ⟨g1, g2⟩ := g
  rcases Nat.lt_trichotomy n k with c | c | c
  · exfalso
    have := g2 (by omega)
    have : 2 ^ n ≤ 2 ^ (k - 1) := Nat.pow_le_pow_right (by decide) (by omega)
    omega
  · exact c
  · exfalso
    have := h2 (by omega)
    have : 2 ^ k ≤ 2 ^ (n - 1) := Nat.pow_le_pow_right (by decide) (by omega)
    omega
end Go.Proofs.Ytakofbkbbmpfeaa

namespace Go.Proofs.Ytakofbkbbmpfeaa
open Go.RowKit

def ShortR (a b c d s0 s1 : Int) (p : Bool) : Prop := (c = 0 ∧ d = 0) ∧ p = true ∧ s0 = a ∧ s1 = b ∨ ¬ (c = 0 ∧ d = 0) ∧ p = false ∧ s0 = 0 ∧ s1 = 0
def IsAgg2Int (Q : Int → Int → Int → Prop) (v : Value) : Prop := ∃ a b o : Int, Q a b o ∧ v = .tuple #[.agg #[.int .u64 a, .int .u64 b], .int .u64 o]
def IsShift (k : Int) (v : Value) : Prop := ∃ s r : Int, ShiftR k s r ∧ v = .tuple #[.int .i64 s, .int .u64 r]
def IsHalves (Q : Int → Int → Int → Int → Prop) (v : Value) : Prop := ∃ a b c d : Int, Q a b c d ∧ v = .agg #[.int .u32 a, .int .u32 b, .int .u32 c, .int .u32 d]
/-- x is a by 2 to the k; k is no more than a's bits. -/
def ShrK (a x : Int) (k : Nat) : Prop := U64 a ∧ x.toNat = a.toNat / 2 ^ k ∧ 0 ≤ x ∧ k ≤ 64 ∧ (0 < k → 2 ^ (k - 1) ≤ a.toNat)
theorem shrK_0 {a : Int} (h : U64 a) : ShrK a a 0 := by unfold ShrK; exact ⟨h, by simp, h.1, by omega, by simp⟩
theorem shrK_s {a x : Int} {k : Nat} (h : ShrK a x k) (hx : x ≠ 0) : ShrK a (x / 2) (k + 1) ∧ k < 64 := by
  obtain ⟨ha, e, h0, hk, _⟩ := h
  have hp : 0 < 2 ^ k := Nat.pow_pos (by decide)
  have h1 : 2 ^ k ≤ a.toNat := by
    rcases Nat.lt_or_ge a.toNat (2 ^ k) with c | c
    · rw [Nat.div_eq_of_lt c] at e; omega
    · exact c
  have h64 : k < 64 := by
    rcases Nat.lt_or_ge k 64 with c | c
    · exact c
    · have : 2 ^ 64 ≤ 2 ^ k := Nat.pow_le_pow_right (by decide) c
      unfold U64 at ha
      omega
  refine ⟨⟨ha, ?_, by omega, by omega, fun _ => by simpa using h1⟩, h64⟩
  rw [Nat.pow_succ, ← Nat.div_div_eq_div_mul, ← e]
  omega
theorem shrK_end {a x : Int} {k : Nat} (h : ShrK a x k) (hx : x = 0) : BitsN a.toNat k := by
  obtain ⟨ha, e, h0, hk, h1⟩ := h
  refine ⟨?_, h1⟩
  have hp : 0 < 2 ^ k := Nat.pow_pos (by decide)
  rcases Nat.lt_or_ge a.toNat (2 ^ k) with c | c
  · exact c
  · have := Nat.div_pos c hp
    omega

def IsBits (m : Nat) (v : Value) : Prop := ∃ n : Nat, n ≤ 256 ∧ BitsN m n ∧ v = .int .i64 n
end Go.Proofs.Ytakofbkbbmpfeaa

namespace Go.Proofs.Ytakofbkbbmpfeaa
open Go.RowKit

theorem bits_shift {hi lo s n : Nat} (hl : lo < 2 ^ s) (h0 : 0 < hi) (h : BitsN hi n) : BitsN (lo + hi * 2 ^ s) (s + n) ∧ 0 < n := by
  obtain ⟨h1, h2⟩ := h
  have hn : 0 < n := by
    rcases Nat.eq_zero_or_pos n with c | c
    · subst c; simp at h1; omega
    · exact c
  refine ⟨⟨?_, fun _ => ?_⟩, hn⟩
  · rw [Nat.pow_add]
    have : (hi + 1) * 2 ^ s ≤ 2 ^ n * 2 ^ s := Nat.mul_le_mul_right _ h1
    rw [Nat.add_mul, Nat.one_mul] at this
    rw [Nat.mul_comm (2 ^ s)]
    omega
  · have e : s + n - 1 = (n - 1) + s := by omega
    rw [e, Nat.pow_add]
    have := Nat.mul_le_mul_right (2 ^ s) (h2 hn)
    omega
theorem u64_toNat {a : Int} (h : U64 a) : a.toNat < 2 ^ 64 := by unfold U64 at h; omega
theorem bits_d {a b c d : Int} {n : Nat} (ha : U64 a) (hb : U64 b) (hc : U64 c) (hd : U64 d) (h : d ≠ 0) (hn : BitsN d.toNat n) : BitsN (v4 a b c d) (192 + n) := by
  have := (bits_shift (hi := d.toNat) (lo := v2 a b + c.toNat * 340282366920938463463374607431768211456) (s := 192) (by unfold v2 U64 at *; omega) (by unfold U64 at *; omega) hn).1
  have e : v4 a b c d = v2 a b + c.toNat * 340282366920938463463374607431768211456 + d.toNat * 2 ^ 192 := by unfold v4 v2; omega
  rw [e]; exact this
theorem bits_cc {a b c d : Int} {n : Nat} (ha : U64 a) (hb : U64 b) (hc : U64 c) (hd : d = 0) (h : c ≠ 0) (hn : BitsN c.toNat n) : BitsN (v4 a b c d) (128 + n) := by
  have := (bits_shift (hi := c.toNat) (lo := v2 a b) (s := 128) (by unfold v2 U64 at *; omega) (by unfold U64 at *; omega) hn).1
  have e : v4 a b c d = v2 a b + c.toNat * 2 ^ 128 := by unfold v4 v2; omega
  rw [e]; exact this
theorem bits_b {a b c d : Int} {n : Nat} (ha : U64 a) (hb : U64 b) (hc : c = 0) (hd : d = 0) (h : b ≠ 0) (hn : BitsN b.toNat n) : BitsN (v4 a b c d) (64 + n) := by
  have := (bits_shift (hi := b.toNat) (lo := a.toNat) (s := 64) (by unfold U64 at *; omega) (by unfold U64 at *; omega) hn).1
  have e : v4 a b c d = a.toNat + b.toNat * 2 ^ 64 := by unfold v4 v2; omega
  rw [e]; exact this
theorem bits_a {a b c d : Int} {n : Nat} (hb : b = 0) (hc : c = 0) (hd : d = 0) (hn : BitsN a.toNat n) : BitsN (v4 a b c d) n := by
  have e : v4 a b c d = a.toNat := by unfold v4 v2; omega
  rw [e]; exact hn
theorem bits_none {a b c d : Int} (ha : a = 0) (hb : b = 0) (hc : c = 0) (hd : d = 0) : BitsN (v4 a b c d) 0 := by
  subst ha hb hc hd; simp [BitsN, v4, v2]

theorem join_w (x y : Int) (hx : U32 x) (hy : U32 y) : bits BinOp.or IntKind.u64 (IntKind.u64.wrap x) (IntKind.u64.wrap (IntKind.u64.wrap y * 4294967296)) = x + y * 4294967296 := by
  obtain ⟨h1, h2⟩ := hx
  obtain ⟨h3, h4⟩ := hy
  obtain ⟨a, rfl⟩ := Int.eq_ofNat_of_zero_le h1
  obtain ⟨b, rfl⟩ := Int.eq_ofNat_of_zero_le h3
  have e1 : IntKind.u64.wrap (a : Int) = (a : Int) := by rw [IntKind.wrap_u64]; omega
  have e2 : IntKind.u64.wrap (IntKind.u64.wrap (b : Int) * 4294967296) = ((b * 4294967296 : Nat) : Int) := by rw [IntKind.wrap_u64, IntKind.wrap_u64]; omega
  rw [e1, e2, u64_or_nat _ _ (by omega) (by omega), Nat.or_comm, nat_join 32 _ _ (by omega) (by omega)]
  omega
def IsAgg4 (Q : Int → Int → Int → Int → Prop) (v : Value) : Prop := ∃ a b c d : Int, Q a b c d ∧ v = .agg #[.int .u64 a, .int .u64 b, .int .u64 c, .int .u64 d]
def WordsR (h0 h1 h2 h3 h4 h5 h6 h7 a b c d : Int) : Prop := U64 a ∧ U64 b ∧ U64 c ∧ U64 d ∧ a = h0 + h1 * 4294967296 ∧ b = h2 + h3 * 4294967296 ∧ c = h4 + h5 * 4294967296 ∧ d = h6 + h7 * 4294967296

end Go.Proofs.Ytakofbkbbmpfeaa

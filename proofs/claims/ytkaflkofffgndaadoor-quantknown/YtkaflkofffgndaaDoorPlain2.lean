/- Plain facts on shifts of words. -/
import Derived.Test.YtkaflkofffgndaaDoorPlain
namespace Go.Proofs.YtkaflkofffgndaaDoor

theorem or_join (i : Nat) (x y : Nat) (hx : x % 2 ^ i = 0) (hy : y < 2 ^ i) (h1 : x < 18446744073709551616) (h2 : y < 18446744073709551616) :
    bits .or .u64 (x : Int) (y : Int) = ((x + y : Nat) : Int) := by
  rw [u64_or_nat x y h1 h2, nat_join i x y hx hy]

def DoubleW (a0 a1 b t0 t1 o : Int) : Prop := U64 t0 ∧ U64 t1 ∧ (o = 0 ∨ o = 1) ∧ v2 t0 t1 + o.toNat * 340282366920938463463374607431768211456 = 2 * v2 a0 a1 + b.toNat
theorem doubleW_of (a0 a1 b : Int) (h0 : U64 a0) (h1 : U64 a1) (hb : b = 0 ∨ b = 1) :
    DoubleW a0 a1 b (bits .or .u64 (IntKind.u64.wrap (a0 * 2)) b) (bits .or .u64 (IntKind.u64.wrap (a1 * 2)) (a0 / 9223372036854775808)) (a1 / 9223372036854775808) := by
  obtain ⟨h00, h01⟩ := h0
  obtain ⟨h10, h11⟩ := h1
  obtain ⟨x, rfl⟩ := Int.eq_ofNat_of_zero_le h00
  obtain ⟨y, rfl⟩ := Int.eq_ofNat_of_zero_le h10
  obtain ⟨z, rfl⟩ : ∃ z : Nat, b = z := Int.eq_ofNat_of_zero_le (by omega)
  have e0 : IntKind.u64.wrap ((x : Int) * 2) = ((x * 2 % 18446744073709551616 : Nat) : Int) := by rw [IntKind.wrap_u64]; omega
  have e1 : IntKind.u64.wrap ((y : Int) * 2) = ((y * 2 % 18446744073709551616 : Nat) : Int) := by rw [IntKind.wrap_u64]; omega
  have e2 : (x : Int) / 9223372036854775808 = ((x / 9223372036854775808 : Nat) : Int) := by omega
  rw [e0, e1, e2, or_join 1 _ _ (by omega) (by omega) (by omega) (by omega), or_join 1 _ _ (by omega) (by omega) (by omega) (by omega)]
  unfold DoubleW U64 v2
  omega

/-- k brought within 0 to 256. -/
def clampK (k : Int) : Nat := if k < 0 then 0 else if 256 < k then 256 else k.toNat
def ShiftR (k s r : Int) : Prop := s * 64 + r = clampK k ∧ 0 ≤ s ∧ s ≤ 4 ∧ 0 ≤ r ∧ r < 64

/-- The halves of two words. -/
def HalvesW (a b h0 h1 h2 h3 : Int) : Prop := U32 h0 ∧ U32 h1 ∧ U32 h2 ∧ U32 h3 ∧ h0 + h1 * 4294967296 = a ∧ h2 + h3 * 4294967296 = b
theorem halvesW_of (a b : Int) (ha : U64 a) (hb : U64 b) : HalvesW a b (a % 4294967296) (a / 4294967296 % 4294967296) (b % 4294967296) (b / 4294967296 % 4294967296) := by
  unfold HalvesW U32 U64 at *
  omega

/-- How many bits. -/
def BitsN (m n : Nat) : Prop := m < 2 ^ n ∧ (0 < n → 2 ^ (n - 1) ≤ m)
theorem bitsN_unique {m n k : Nat} (h : BitsN m n) (g : BitsN m k) : n = k := by
  obtain ⟨h1, h2⟩ := h
  obtain ⟨g1, g2⟩ := g
  rcases Nat.lt_trichotomy n k with c | c | c
  · exfalso
    have := g2 (by omega)
    have : 2 ^ n ≤ 2 ^ (k - 1) := Nat.pow_le_pow_right (by decide) (by omega)
    omega
  · exact c
  · exfalso
    have := h2 (by omega)
    have : 2 ^ k ≤ 2 ^ (n - 1) := Nat.pow_le_pow_right (by decide) (by omega)
    omega
end Go.Proofs.YtkaflkofffgndaaDoor

/- Plain facts on words, halves and bits: no Go text in sight. -/
import Derived.Laws.BitsAllLaws
import Derived.Laws.Bits64
namespace Go.Proofs.Ytakofbkbbmpfeab

/-- A word. -/
def U64 (x : Int) : Prop := 0 ≤ x ∧ x < 18446744073709551616
/-- The value of two words, the lower one first; of four. -/
def v2 (a b : Int) : Nat := a.toNat + b.toNat * 18446744073709551616
def v4 (a b c d : Int) : Nat := v2 a b + v2 c d * 340282366920938463463374607431768211456

theorem v2_lt' {a b : Int} (ha : U64 a) (hb : U64 b) : v2 a b < 340282366920938463463374607431768211456 := by simp only [U64, v2] at *; omega
def SubW (a0 a1 b0 b1 s0 s1 : Int) : Prop := U64 s0 ∧ U64 s1 ∧ v2 s0 s1 = (v2 a0 a1 + 340282366920938463463374607431768211456 - v2 b0 b1) % 340282366920938463463374607431768211456
def AddW (a b c s o : Int) : Prop := U64 s ∧ (o = 0 ∨ o = 1) ∧ a + b + c = s + o * 18446744073709551616

theorem top_bit (x : Nat) (h : x < 18446744073709551616) : x / 9223372036854775808 = (x.testBit 63).toNat := by
  rw [Nat.testBit_eq_decide_div_mod_eq]
  have : (2 : Nat) ^ 63 = 9223372036854775808 := by decide
  rw [this]
  by_cases hx : x < 9223372036854775808
  · rw [Nat.div_eq_of_lt hx]; decide
  · have : x / 9223372036854775808 = 1 := by omega
    rw [this]; decide

theorem addW_of (a b c : Int) (ha : U64 a) (hb : U64 b) (hc : c = 0 ∨ c = 1) :
    AddW a b c (IntKind.u64.wrap (IntKind.u64.wrap (a + b) + c))
      (bits .or .u64 (bits .and .u64 a b) (bits .andNot .u64 (bits .or .u64 a b) (IntKind.u64.wrap (IntKind.u64.wrap (a + b) + c))) / 9223372036854775808) := by
  obtain ⟨ha0, ha1⟩ := ha
  obtain ⟨hb0, hb1⟩ := hb
  obtain ⟨x, rfl⟩ := Int.eq_ofNat_of_zero_le ha0
  obtain ⟨y, rfl⟩ := Int.eq_ofNat_of_zero_le hb0
  obtain ⟨z, rfl⟩ : ∃ z : Nat, c = z := Int.eq_ofNat_of_zero_le (by omega)
  have hs : IntKind.u64.wrap (IntKind.u64.wrap ((x : Int) + y) + z) = (((x + y + z) % 18446744073709551616 : Nat) : Int) := by
    rw [IntKind.wrap_u64, IntKind.wrap_u64]; omega
  rw [hs]
  generalize hS : (x + y + z) % 18446744073709551616 = s
  have hs1 : s < 18446744073709551616 := by omega
  have hx1 : x < 18446744073709551616 := by omega
  have hy1 : y < 18446744073709551616 := by omega
  have ho : x ||| y < 2 ^ 64 := Nat.or_lt_two_pow (by omega) (by omega)
  have hn : x &&& y < 2 ^ 64 := Nat.and_lt_two_pow _ (by omega)
  rw [u64_or_nat x y hx1 hy1, u64_and_nat x y hx1 hy1, u64_andNot_nat _ s (by omega) hs1]
  have hm : (x ||| y) &&& (18446744073709551615 - s) < 2 ^ 64 := Nat.and_lt_two_pow _ (by omega)
  rw [u64_or_nat _ _ (by omega) (by omega)]
  have hq : (x &&& y) ||| ((x ||| y) &&& (18446744073709551615 - s)) < 2 ^ 64 := Nat.or_lt_two_pow hn hm
  have e : (((((x &&& y) ||| ((x ||| y) &&& (18446744073709551615 - s))) : Nat) : Int) / 9223372036854775808) = ((((x &&& y) ||| ((x ||| y) &&& (18446744073709551615 - s))) / 9223372036854775808 : Nat) : Int) := by omega
  rw [e, top_bit _ (by omega)]
  have hsub : 18446744073709551615 - s = 2 ^ 64 - (s + 1) := by omega
  rw [hsub, Nat.testBit_or, Nat.testBit_and, Nat.testBit_and, Nat.testBit_or, Nat.testBit_two_pow_sub_succ (by omega)]
  have tx := top_bit x hx1
  have ty := top_bit y hy1
  have ts := top_bit s hs1
  unfold AddW U64
  cases h1 : x.testBit 63 <;> cases h2 : y.testBit 63 <;> cases h3 : s.testBit 63 <;> simp [h1, h2, h3] at tx ty ts ⊢ <;> omega

/-- Halves of a word. -/
def U32 (x : Int) : Prop := 0 ≤ x ∧ x < 4294967296

end Go.Proofs.Ytakofbkbbmpfeab

/- Plain facts on words, halves and bits: no Go text in sight. -/
/- How arrays of words are compared. -/
/- Contracts of package limb's small functions. -/
import Derived.Laws.BitsAllLaws
import Derived.Laws.Bits64
import Derived.Test.YtakofbkbbmpfeaaRows
import Derived.WalkKit
import Derived.ChangeKeysEq
import Derived.WalkSpells
import Derived.WalkLawsBesides
namespace Go.Proofs.Ytakofbkbbmpfeaa

/-- A word. -/
def U64 (x : Int) : Prop := 0 ≤ x ∧ x < 18446744073709551616
/-- The value of two words, the lower one first; of four. -/
def v2 (a b : Int) : Nat := a.toNat + b.toNat * 18446744073709551616
def v4 (a b c d : Int) : Nat := v2 a b + v2 c d * 340282366920938463463374607431768211456

theorem v2_lt' {a b : Int} (ha : U64 a) (hb : U64 b) : v2 a b < 340282366920938463463374607431768211456 := by simp only [U64, v2] at *; omega
def SubW (a0 a1 b0 b1 s0 s1 : Int) : Prop := U64 s0 ∧ U64 s1 ∧ v2 s0 s1 = (v2 a0 a1 + 340282366920938463463374607431768211456 - v2 b0 b1) % 340282366920938463463374607431768211456
def AddW (a b c s o : Int) : Prop := U64 s ∧ (o = 0 ∨ o = 1) ∧ a + b + c = s + o * 18446744073709551616

theorem top_bit (x : Nat) (h : x < 18446744073709551616) : x / 9223372036854775808 = (x.testBit 63).toNat := by
  rw [Nat.testBit_eq_decide_div_mod_eq]
  have : (2 : Nat) ^ 63 = 9223372036854775808 := by decide
  rw [this]
  by_cases hx : x < 9223372036854775808
  · rw [Nat.div_eq_of_lt hx]; decide
  · have : x / 9223372036854775808 = 1 := by omega
    rw [this]; decide

theorem addW_of (a b c : Int) (ha : U64 a) (hb : U64 b) (hc : c = 0 ∨ c = 1) :
    AddW a b c (IntKind.u64.wrap (IntKind.u64.wrap (a + b) + c))
      (bits .or .u64 (bits .and .u64 a b) (bits .andNot .u64 (bits .or .u64 a b) (IntKind.u64.wrap (IntKind.u64.wrap (a + b) + c))) / 9223372036854775808) := by
  obtain ⟨ha0, ha1⟩ := ha
  obtain ⟨hb0, hb1⟩ := hb
  obtain ⟨x, rfl⟩ := Int.eq_ofNat_of_zero_le ha0
  obtain ⟨y, rfl⟩ := Int.eq_ofNat_of_zero_le hb0
  obtain ⟨z, rfl⟩ : ∃ z : Nat, c = z := Int.eq_ofNat_of_zero_le (by omega)
  have hs : IntKind.u64.wrap (IntKind.u64.wrap ((x : Int) + y) + z) = (((x + y + z) % 18446744073709551616 : Nat) : Int) := by
    rw [IntKind.wrap_u64, IntKind.wrap_u64]; omega
  rw [hs]
  generalize hS : (x + y + z) % 18446744073709551616 = s
  have hs1 : s < 18446744073709551616 := by omega
  have hx1 : x < 18446744073709551616 := by omega
  have hy1 : y < 18446744073709551616 := by omega
  have ho : x ||| y < 2 ^ 64 := Nat.or_lt_two_pow (by omega) (by omega)
  have hn : x &&& y < 2 ^ 64 := Nat.and_lt_two_pow _ (by omega)
  rw [u64_or_nat x y hx1 hy1, u64_and_nat x y hx1 hy1, u64_andNot_nat _ s (by omega) hs1]
  have hm : (x ||| y) &&& (18446744073709551615 - s) < 2 ^ 64 := Nat.and_lt_two_pow _ (by omega)
  rw [u64_or_nat _ _ (by omega) (by omega)]
  have hq : (x &&& y) ||| ((x ||| y) &&& (18446744073709551615 - s)) < 2 ^ 64 := Nat.or_lt_two_pow hn hm
  have e : (((((x &&& y) ||| ((x ||| y) &&& (18446744073709551615 - s))) : Nat) : Int) / 9223372036854775808) = ((((x &&& y) ||| ((x ||| y) &&& (18446744073709551615 - s))) / 9223372036854775808 : Nat) : Int) := by omega
  rw [e, top_bit _ (by omega)]
  have hsub : 18446744073709551615 - s = 2 ^ 64 - (s + 1) := by omega
  rw [hsub, Nat.testBit_or, Nat.testBit_and, Nat.testBit_and, Nat.testBit_or, Nat.testBit_two_pow_sub_succ (by omega)]
  have tx := top_bit x hx1
  have ty := top_bit y hy1
  have ts := top_bit s hs1
  unfold AddW U64
  cases h1 : x.testBit 63 <;> cases h2 : y.testBit 63 <;> cases h3 : s.testBit 63 <;> simp [h1, h2, h3] at tx ty ts ⊢ <;> omega

/-- Halves of a word. -/
def U32 (x : Int) : Prop := 0 ≤ x ∧ x < 4294967296

end Go.Proofs.Ytakofbkbbmpfeaa

namespace Go.Proofs.Ytakofbkbbmpfeaa
theorem info_w : ∃ i, Try.prog.info? 31 = some i := by
  have e : (Try.prog.info? 31).isSome = true := by kernel_rfl
  exact Option.isSome_iff_exists.1 e
theorem cells_w : Try.prog.cellsOf 31 = 1 := by kernel_rfl
/-- Are two words, or four, the same? -/
def eqW2 (a b c d : Int) : Bool := a == c && b == d
def eqW4 (a b c d a' b' c' d' : Int) : Bool := (a == a' && b == b') && (c == c' && d == d')
@[go_sem] theorem run_eq2 (a b c d : Int) (w : World) : (Op.equalIn 10000 47 (.agg #[.int .u64 a, .int .u64 b]) (.agg #[.int .u64 c, .int .u64 d])).run Try.prog w = .ok (eqW2 a b c d) w := by
  obtain ⟨i, hi⟩ := info_w
  rw [run_equalIn_array w 9999 _ _ Try.underlying47 hi, cells_w]
  simp only [List.range, List.range.loop, Op.eqItems]
  simp [go_sem, Try.underlying31, eqW2]
  by_cases h0 : a = c <;> by_cases h1 : b = d <;> simp [h0, h1]
theorem eqW2_iff {a b c d : Int} : eqW2 a b c d = true ↔ a = c ∧ b = d := by simp [eqW2]
theorem eqW4_iff {a b c d a' b' c' d' : Int} : eqW4 a b c d a' b' c' d' = true ↔ a = a' ∧ b = b' ∧ c = c' ∧ d = d' := by simp [eqW4, and_assoc]
theorem eqW2_yes {a b c d : Int} (h : a = c ∧ b = d) : eqW2 a b c d = true := eqW2_iff.2 h
theorem eqW4_yes {a b c d a' b' c' d' : Int} (h : a = a' ∧ b = b' ∧ c = c' ∧ d = d') : eqW4 a b c d a' b' c' d' = true := eqW4_iff.2 h
theorem eqW2_no {a b c d : Int} (h : ¬ (a = c ∧ b = d)) : eqW2 a b c d = false := by
  cases e : eqW2 a b c d
  · rfl
  · exact absurd (eqW2_iff.1 e) h
end Go.Proofs.Ytakofbkbbmpfeaa

namespace Go.Proofs.Ytakofbkbbmpfeaa
open Go.RowKit

/-- It returned such a value, and nothing that was there has turned. -/
def Ret (w : World) (P : Value → Prop) (e : Ending) (w' : World) : Prop := ∃ v, P v ∧ e = .returned v ∧ Below w.heap.size w w'
def IsAgg2 (Q : Int → Int → Prop) (v : Value) : Prop := ∃ a b : Int, Q a b ∧ v = .agg #[.int .u64 a, .int .u64 b]
def IsAgg2Bool (Q : Int → Int → Bool → Prop) (v : Value) : Prop := ∃ (a b : Int) (p : Bool), Q a b p ∧ v = .tuple #[.agg #[.int .u64 a, .int .u64 b], .bool p]

theorem bcell {W w1 : World} (hb : Below W.heap.size W w1) : (∀ b o, b < W.heap.size → w1.cell? ⟨b, o, none⟩ = W.cell? ⟨b, o, none⟩) ∧ (∀ b o, b < W.heap.size → w1.frozen? ⟨b, o, none⟩ = W.frozen? ⟨b, o, none⟩) :=
  ⟨fun b o h => hb.cell (p := ⟨b, o, none⟩) h, fun b o h => hb.frozen (p := ⟨b, o, none⟩) h⟩

def IsAddW (a b c : Int) (v : Value) : Prop := ∃ s o : Int, AddW a b c s o ∧ v = .tuple #[.int .u64 s, .int .u64 o]
set_option maxHeartbeats 400000 in
theorem of_c (a : Int) (w : World) :
    Calls Try.prog 73 #[.int .u64 a] w (Ret w (· = .agg #[.int .u64 a, .int .u64 0])) := by
  go_enter Try.func73, Try.ntmps73
  go_wp2
  exact bodyPost_ret (v := .agg #[.int .u64 a, .int .u64 0]) (by simp [results, Try.results73, go_sem]) rfl ⟨_, rfl, rfl, (Below.refl _ _).alloc (Nat.le_refl _) _⟩

theorem subW_lt (a0 a1 b0 b1 : Int) (ha0 : U64 a0) (ha1 : U64 a1) (hb0 : U64 b0) (hb1 : U64 b1) (h : a0 < b0) :
    SubW a0 a1 b0 b1 (IntKind.u64.wrap (a0 - b0)) (IntKind.u64.wrap (IntKind.u64.wrap (a1 - b1) - 1)) := by
  simp only [SubW, U64, v2, IntKind.wrap_u64] at *
  omega
theorem subW_ge (a0 a1 b0 b1 : Int) (ha0 : U64 a0) (ha1 : U64 a1) (hb0 : U64 b0) (hb1 : U64 b1) (h : b0 ≤ a0) :
    SubW a0 a1 b0 b1 (IntKind.u64.wrap (a0 - b0)) (IntKind.u64.wrap (IntKind.u64.wrap (a1 - b1))) := by
  simp only [SubW, U64, v2, IntKind.wrap_u64] at *
  omega

/-- -1, 0, 1. -/
def cmpI (m n : Nat) : Int := if m = n then 0 else if m < n then -1 else 1
theorem cmp_eq {a0 a1 b0 b1 : Int} (h0 : a0 = b0) (h1 : a1 = b1) : cmpI (v2 a0 a1) (v2 b0 b1) = 0 := by subst h0; subst h1; simp [cmpI]
theorem cmp_lt {a0 a1 b0 b1 : Int} (ha0 : U64 a0) (ha1 : U64 a1) (hb0 : U64 b0) (hb1 : U64 b1) (h : a1 < b1 ∨ a1 = b1 ∧ a0 < b0) : cmpI (v2 a0 a1) (v2 b0 b1) = -1 := by
  simp only [U64] at *
  unfold cmpI v2
  rw [if_neg (by omega), if_pos (by omega)]
theorem cmp_gt {a0 a1 b0 b1 : Int} (ha0 : U64 a0) (ha1 : U64 a1) (hb0 : U64 b0) (hb1 : U64 b1) (h : b1 < a1 ∨ a1 = b1 ∧ b0 < a0) : cmpI (v2 a0 a1) (v2 b0 b1) = 1 := by
  simp only [U64] at *
  unfold cmpI v2
  rw [if_neg (by omega), if_neg (by omega)]

def IsInt (n : Int) (v : Value) : Prop := v = .int .i64 n
set_option maxHeartbeats 400000 in
theorem cmp_x (a0 a1 b0 b1 : Int) (w : World) (ha0 : U64 a0) (ha1 : U64 a1) (hb0 : U64 b0) (hb1 : U64 b1) :
    Calls Try.prog 75 #[.agg #[.int .u64 a0, .int .u64 a1], .agg #[.int .u64 b0, .int .u64 b1]] w fun e w' => e = .returned (.int .i64 (cmpI (v2 a0 a1) (v2 b0 b1))) ∧ (w.alloc (.cells #[.int .u64 a0, .int .u64 a1] 47)).alloc (.cells #[.int .u64 b0, .int .u64 b1] 47) = w' := by
  by_cases he : a0 = b0 ∧ a1 = b1
  · rw [cmp_eq he.1 he.2]
    have q := eqW2_yes he
    clear ha0 ha1 hb0 hb1 he
    go_enter Try.func75, Try.ntmps75
    go_wp2
    go_ret
    exact ⟨rfl, rfl⟩
  · have q := eqW2_no he
    by_cases h1 : a1 < b1
    · rw [cmp_lt ha0 ha1 hb0 hb1 (Or.inl h1)]
      clear ha0 ha1 hb0 hb1 he
      go_enter Try.func75, Try.ntmps75
      go_wp2
      go_ret
      exact ⟨rfl, rfl⟩
    · by_cases h2 : a1 = b1
      · have g2 : (a1 == b1) = true := by simp [h2]
        by_cases h3 : a0 < b0
        · rw [cmp_lt ha0 ha1 hb0 hb1 (Or.inr ⟨h2, h3⟩)]
          clear ha0 ha1 hb0 hb1 he h2
          go_enter Try.func75, Try.ntmps75
          go_wp2
          go_ret
          exact ⟨rfl, rfl⟩
        · rw [cmp_gt ha0 ha1 hb0 hb1 (Or.inr ⟨h2, by omega⟩)]
          clear ha0 ha1 hb0 hb1 he h2
          go_enter Try.func75, Try.ntmps75
          go_wp2
          go_ret
          exact ⟨rfl, rfl⟩
      · have g2 : (a1 == b1) = false := by simp [h2]
        rw [cmp_gt ha0 ha1 hb0 hb1 (Or.inl (by omega))]
        clear ha0 ha1 hb0 hb1 he h2
        go_enter Try.func75, Try.ntmps75
        go_wp2
        go_ret
        exact ⟨rfl, rfl⟩

theorem cmp_c (a0 a1 b0 b1 : Int) (w : World) (ha0 : U64 a0) (ha1 : U64 a1) (hb0 : U64 b0) (hb1 : U64 b1) :
    Calls Try.prog 75 #[.agg #[.int .u64 a0, .int .u64 a1], .agg #[.int .u64 b0, .int .u64 b1]] w (Ret w (IsInt (cmpI (v2 a0 a1) (v2 b0 b1)))) :=
  (cmp_x a0 a1 b0 b1 w ha0 ha1 hb0 hb1).mono fun _ _ ⟨he, hw⟩ => ⟨_, rfl, he, by subst hw; exact ((Below.refl _ _).alloc (Nat.le_refl _) _).alloc (by simp) _⟩

/-- a and b, where there is room. -/
def AddR (a0 a1 b0 b1 s0 s1 : Int) (p : Bool) : Prop :=
  U64 s0 ∧ U64 s1 ∧ (v2 a0 a1 + v2 b0 b1 < 340282366920938463463374607431768211456 ∧ p = true ∧ v2 s0 s1 = v2 a0 a1 + v2 b0 b1 ∨ 340282366920938463463374607431768211456 ≤ v2 a0 a1 + v2 b0 b1 ∧ p = false ∧ s0 = 0 ∧ s1 = 0)
theorem addR_no {a0 a1 b0 b1 s0 s1 o o' : Int} (ha0 : U64 a0) (ha1 : U64 a1) (hb0 : U64 b0) (hb1 : U64 b1) (h0 : AddW a0 b0 0 s0 o) (h1 : AddW a1 b1 o s1 o') (ho : o' ≠ 0) : AddR a0 a1 b0 b1 0 0 false := by
  simp only [AddR, AddW, U64, v2] at *
  refine ⟨by omega, by omega, Or.inr ⟨by omega, by simp⟩⟩
theorem addR_yes {a0 a1 b0 b1 s0 s1 o o' : Int} (ha0 : U64 a0) (ha1 : U64 a1) (hb0 : U64 b0) (hb1 : U64 b1) (h0 : AddW a0 b0 0 s0 o) (h1 : AddW a1 b1 o s1 o') (ho : o' = 0) : AddR a0 a1 b0 b1 s0 s1 true := by
  simp only [AddR, AddW, U64, v2] at *
  refine ⟨by omega, by omega, Or.inl ⟨by omega, by simp, by omega⟩⟩

end Go.Proofs.Ytakofbkbbmpfeaa

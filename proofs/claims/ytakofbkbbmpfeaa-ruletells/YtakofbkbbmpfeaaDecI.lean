/- dec at any right decimal: sizeAt; Scaled where it is over. -/
/- Package dec at any decimals: bothAt, difference, Add. -/
/- dec.Add at any decimals: one answer. -/
import Derived.Test.YtakofbkbbmpfeaaDecF
import Derived.Test.YtakofbkbbmpfeaaHold
namespace Go.Proofs.Ytakofbkbbmpfeaa
open Go.RowKit
theorem v4_lo {a b : Int} : v4 a b 0 0 = v2 a b := by
  unfold v4
  have h : v2 0 0 = 0 := by
    unfold v2
    rw [Int.toNat_zero, Nat.zero_mul]
  rw [h, Nat.zero_mul, Nat.add_zero]
set_option maxRecDepth 100000 in
theorem mul_short_all {a b x y c0 c1 c2 c3 s0 s1 : Int} {p : Bool} (hm : MulR a b x y c0 c1 c2 c3) (hs : ShortR c0 c1 c2 c3 s0 s1 p) :
    U64 s0 ∧ U64 s1 ∧ ((v2 a b * v2 x y < 340282366920938463463374607431768211456 ∧ p = true ∧ v2 s0 s1 = v2 a b * v2 x y) ∨ (340282366920938463463374607431768211456 ≤ v2 a b * v2 x y ∧ p = false ∧ s0 = 0 ∧ s1 = 0)) := by
  obtain ⟨u0, u1, u2, u3, e⟩ := hm
  rw [← e]
  by_cases hl : v4 c0 c1 c2 c3 < 340282366920938463463374607431768211456
  · obtain ⟨z2, z3, e2⟩ := v4_low u0 u1 u2 u3 hl
    rcases hs with ⟨_, hp, rfl, rfl⟩ | ⟨hn, _⟩
    · exact ⟨u0, u1, .inl ⟨hl, hp, e2.symm⟩⟩
    · exact absurd ⟨z2, z3⟩ hn
  · rcases hs with ⟨⟨z2, z3⟩, _⟩ | ⟨_, hp, rfl, rfl⟩
    · exfalso
      subst z2 z3
      have := v2_lt u0 u1
      rw [← v4_lo] at this
      exact hl this
    · exact ⟨u64_0, u64_0, .inr ⟨Nat.le_of_not_lt hl, hp, rfl, rfl⟩⟩
/-- A number of two words, and whether it has room there. -/
def IsSz (M : Nat) (v : Value) : Prop := ∃ (x y : Int) (p : Bool), (U64 x ∧ U64 y ∧ ((M < 340282366920938463463374607431768211456 ∧ p = true ∧ v2 x y = M) ∨ (340282366920938463463374607431768211456 ≤ M ∧ p = false ∧ x = 0 ∧ y = 0))) ∧ v = .tuple #[.agg #[.int .u64 x, .int .u64 y], .bool p]
end Go.Proofs.Ytakofbkbbmpfeaa

namespace Go.Proofs.Ytakofbkbbmpfeaa
open Go.RowKit
/-- An answer: a decimal and an error. -/
def Ans (V v : Value) : Prop := ∃ (m : Bool) (c d q e : Int), V = .tuple #[.agg #[.bool m, .int .u64 c, .int .u64 d, .int .i64 q], .int .i64 e] ∧ v = .tuple #[.agg #[.bool m, .int .u64 c, .int .u64 d, .int .i64 q], .int .i64 e]
theorem err_form (e : Int) : errV e = .tuple #[.agg #[.bool false, .int .u64 0, .int .u64 0, .int .i64 0], .int .i64 e] := by
  unfold errV decV
  rfl
theorem chk_form (n : Bool) (N : Nat) (s : Int) : ∃ (m : Bool) (c d q e : Int), chkV n N s = .tuple #[.agg #[.bool m, .int .u64 c, .int .u64 d, .int .i64 q], .int .i64 e] := by
  unfold chkV
  split
  · exact ⟨_, _, _, _, _, rfl⟩
  · exact ⟨_, _, _, _, _, err_form 3⟩
theorem ans_err (e : Int) : Ans (errV e) (.tuple #[.agg #[.bool false, .int .u64 0, .int .u64 0, .int .i64 0], .int .i64 e]) := ⟨_, _, _, _, _, err_form e, rfl⟩
theorem ans_of {V V' : Value} {w : World} {f : FuncId} {args : Array Value} (h : Calls Try.prog f args w (Ret w (Ans V))) (hV : V = V') : Calls Try.prog f args w (Ret w (Ans V')) := by
  subst hV
  exact h
/-- A number with its sign as an answer: over where it has more than thirty digits. -/
def chkZ (z s : Int) : Value := if z.natAbs < 1000000000000000000000000000000 then okV z s else errV 3
theorem chk_z (n : Bool) (N : Nat) (s : Int) (h0 : 0 ≤ s) (h9 : s ≤ 9) : chkV n N s = chkZ (zOf n N) s := by
  unfold chkV chkZ
  rw [zOf_abs]
  by_cases h : N < 1000000000000000000000000000000
  · rw [if_pos ⟨h, h0, h9⟩, if_pos h]
  · rw [if_neg (fun x => h x.1), if_neg h]
theorem chk_over {z s : Int} (h : 1000000000000000000000000000000 ≤ z.natAbs) : chkZ z s = errV 3 := by
  unfold chkZ
  rw [if_neg (Nat.not_lt.2 h)]
/-- Its size at a greater Scale. -/
def upW (a b s t : Int) : Nat := v2 a b * 10 ^ (t - s).toNat
def Sz (M : Nat) (x y : Int) (p : Bool) : Prop := U64 x ∧ U64 y ∧ ((M < 340282366920938463463374607431768211456 ∧ p = true ∧ v2 x y = M) ∨ (340282366920938463463374607431768211456 ≤ M ∧ p = false ∧ x = 0 ∧ y = 0))
theorem sz_yes {M : Nat} {x y : Int} {p : Bool} (h : Sz M x y p) (hM : M < 340282366920938463463374607431768211456) : p = true ∧ U64 x ∧ U64 y ∧ v2 x y = M := by
  obtain ⟨hx, hy, ⟨_, hp, e⟩ | ⟨hl, _⟩⟩ := h
  · exact ⟨hp, hx, hy, e⟩
  · exact absurd hM (Nat.not_lt.2 hl)
theorem sz_no {M : Nat} {x y : Int} {p : Bool} (h : Sz M x y p) (hM : 340282366920938463463374607431768211456 ≤ M) : p = false := by
  obtain ⟨_, _, ⟨hl, _⟩ | ⟨_, hp, _⟩⟩ := h
  · exact absurd hl (Nat.not_lt.2 hM)
  · exact hp
def IsSz2 (M N : Nat) (v : Value) : Prop := ∃ (x y : Int) (p : Bool) (x' y' : Int) (p' : Bool), Sz M x y p ∧ Sz N x' y' p' ∧ v = .tuple #[.agg #[.int .u64 x, .int .u64 y], .agg #[.int .u64 x', .int .u64 y'], .bool (p && p')]

theorem sumR_yes {x y x' y' s0 s1 : Int} {p : Bool} (h : AddR x y x' y' s0 s1 p) (hl : v2 x y + v2 x' y' < 340282366920938463463374607431768211456) : p = true ∧ U64 s0 ∧ U64 s1 ∧ v2 s0 s1 = v2 x y + v2 x' y' := by
  obtain ⟨a, b, ⟨_, hp, e⟩ | ⟨hl2, _⟩⟩ := h
  · exact ⟨hp, a, b, e⟩
  · omega
theorem sumR_no {x y x' y' s0 s1 : Int} {p : Bool} (h : AddR x y x' y' s0 s1 p) (hl : 340282366920938463463374607431768211456 ≤ v2 x y + v2 x' y') : p = false := by
  obtain ⟨a, b, ⟨hl2, _⟩ | ⟨_, hp, _⟩⟩ := h
  · omega
  · exact hp

end Go.Proofs.Ytakofbkbbmpfeaa

namespace Go.Proofs.Ytakofbkbbmpfeaa
open Go.RowKit
theorem zAt_zOf (n : Bool) (N : Nat) (s t : Int) : zAt (zOf n N) s t = zOf n (N * 10 ^ (t - s).toNat) := by
  unfold zAt zOf
  rw [Int.natCast_mul]
  cases n
  · rfl
  · exact Int.neg_mul _ _
theorem upW_same (a b s : Int) : upW a b s s = v2 a b := by
  unfold upW
  rw [Int.sub_self, Int.toNat_zero, Nat.pow_zero, Nat.mul_one]
theorem sum_far (n n' : Bool) (M N : Nat) (h : 340282366920938463463374607431768211456 ≤ M) (hN : N < 1000000000000000000000000000000) : 1000000000000000000000000000000 ≤ (zOf n M + zOf n' N).natAbs ∧ 1000000000000000000000000000000 ≤ (zOf n' N + zOf n M).natAbs := by
  unfold zOf
  cases n <;> cases n' <;> simp <;> omega
/-- What Add answers. -/
def addV (n : Bool) (a b s : Int) (n' : Bool) (a' b' s' : Int) : Value := if RightD n a b s ∧ RightD n' a' b' s' then chkZ (zAt (zOf n (v2 a b)) s (max s s') + zAt (zOf n' (v2 a' b')) s' (max s s')) (max s s') else errV 1
end Go.Proofs.Ytakofbkbbmpfeaa

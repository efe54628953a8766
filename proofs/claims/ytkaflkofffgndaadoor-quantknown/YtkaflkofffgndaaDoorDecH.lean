/- Package dec at any decimals: bothAt, difference, Add. -/
import Derived.Test.YtkaflkofffgndaaDoorDecG
namespace Go.Proofs.YtkaflkofffgndaaDoor
open Go.RowKit
/-- An answer: a decimal and an error. -/
def Ans (V v : Value) : Prop := ∃ (m : Bool) (c d q e : Int), V = .tuple #[.agg #[.bool m, .int .u64 c, .int .u64 d, .int .i64 q], .int .i64 e] ∧ v = .tuple #[.agg #[.bool m, .int .u64 c, .int .u64 d, .int .i64 q], .int .i64 e]
theorem err_form (e : Int) : errV e = .tuple #[.agg #[.bool false, .int .u64 0, .int .u64 0, .int .i64 0], .int .i64 e] := by
  unfold errV decV
  rfl
theorem chk_form (n : Bool) (N : Nat) (s : Int) : ∃ (m : Bool) (c d q e : Int), chkV n N s = .tuple #[.agg #[.bool m, .int .u64 c, .int .u64 d, .int .i64 q], .int .i64 e] := by
  unfold chkV
  split
  · exact ⟨_, _, _, _, _, rfl⟩
  · exact ⟨_, _, _, _, _, err_form 3⟩
theorem checked_x (n : Bool) (c0 c1 s : Int) (w : World) (h0 : U64 c0) (h1 : U64 c1) : Calls Tryd.prog 26 #[.bool n, .agg #[.int .u64 c0, .int .u64 c1], .int .i64 s] w (Ret w (Ans (chkV n (v2 c0 c1) s))) := by
  refine (checked_c n c0 c1 s w h0 h1).mono ?_
  rintro e w' ⟨v, hv, he, hb⟩
  obtain ⟨m, c, d, q, er, hf⟩ := chk_form n (v2 c0 c1) s
  exact ⟨v, ⟨m, c, d, q, er, hf, hv.trans hf⟩, he, hb⟩
theorem ans_err (e : Int) : Ans (errV e) (.tuple #[.agg #[.bool false, .int .u64 0, .int .u64 0, .int .i64 0], .int .i64 e]) := ⟨_, _, _, _, _, err_form e, rfl⟩
theorem ans_of {V V' : Value} {w : World} {f : FuncId} {args : Array Value} (h : Calls Tryd.prog f args w (Ret w (Ans V))) (hV : V = V') : Calls Tryd.prog f args w (Ret w (Ans V')) := by
  subst hV
  exact h
/-- A number with its sign as an answer: over where it has more than thirty digits. -/
def chkZ (z s : Int) : Value := if z.natAbs < 1000000000000000000000000000000 then okV z s else errV 3
theorem chk_z (n : Bool) (N : Nat) (s : Int) (h0 : 0 ≤ s) (h9 : s ≤ 9) : chkV n N s = chkZ (zOf n N) s := by
  unfold chkV chkZ
  rw [zOf_abs]
  by_cases h : N < 1000000000000000000000000000000
  · rw [if_pos ⟨h, h0, h9⟩, if_pos h]
  · rw [if_neg (fun x => h x.1), if_neg h]
theorem chk_over {z s : Int} (h : 1000000000000000000000000000000 ≤ z.natAbs) : chkZ z s = errV 3 := by
  unfold chkZ
  rw [if_neg (Nat.not_lt.2 h)]
/-- Its size at a greater Scale. -/
def upW (a b s t : Int) : Nat := v2 a b * 10 ^ (t - s).toNat
def Sz (M : Nat) (x y : Int) (p : Bool) : Prop := U64 x ∧ U64 y ∧ ((M < 340282366920938463463374607431768211456 ∧ p = true ∧ v2 x y = M) ∨ (340282366920938463463374607431768211456 ≤ M ∧ p = false ∧ x = 0 ∧ y = 0))
theorem sz_yes {M : Nat} {x y : Int} {p : Bool} (h : Sz M x y p) (hM : M < 340282366920938463463374607431768211456) : p = true ∧ U64 x ∧ U64 y ∧ v2 x y = M := by
  obtain ⟨hx, hy, ⟨_, hp, e⟩ | ⟨hl, _⟩⟩ := h
  · exact ⟨hp, hx, hy, e⟩
  · exact absurd hM (Nat.not_lt.2 hl)
theorem sz_no {M : Nat} {x y : Int} {p : Bool} (h : Sz M x y p) (hM : 340282366920938463463374607431768211456 ≤ M) : p = false := by
  obtain ⟨_, _, ⟨hl, _⟩ | ⟨_, hp, _⟩⟩ := h
  · exact absurd hl (Nat.not_lt.2 hM)
  · exact hp
def IsSz2 (M N : Nat) (v : Value) : Prop := ∃ (x y : Int) (p : Bool) (x' y' : Int) (p' : Bool), Sz M x y p ∧ Sz N x' y' p' ∧ v = .tuple #[.agg #[.int .u64 x, .int .u64 y], .agg #[.int .u64 x', .int .u64 y'], .bool (p && p')]

theorem sumR_yes {x y x' y' s0 s1 : Int} {p : Bool} (h : AddR x y x' y' s0 s1 p) (hl : v2 x y + v2 x' y' < 340282366920938463463374607431768211456) : p = true ∧ U64 s0 ∧ U64 s1 ∧ v2 s0 s1 = v2 x y + v2 x' y' := by
  obtain ⟨a, b, ⟨_, hp, e⟩ | ⟨hl2, _⟩⟩ := h
  · exact ⟨hp, a, b, e⟩
  · omega
theorem sumR_no {x y x' y' s0 s1 : Int} {p : Bool} (h : AddR x y x' y' s0 s1 p) (hl : 340282366920938463463374607431768211456 ≤ v2 x y + v2 x' y') : p = false := by
  obtain ⟨a, b, ⟨hl2, _⟩ | ⟨_, hp, _⟩⟩ := h
  · omega
  · exact hp

end Go.Proofs.YtkaflkofffgndaaDoor

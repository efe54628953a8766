/- Package label: bit, number, digit, Join, Meet, Below, Right, Of. -/
import Derived.Test.YtiocmkaplblelaaBytesA
import Derived.Test.YtiocmkaplblelaaLabP
import Derived.Laws.Bits64
import Derived.Test.YtiocmkaplblelaaDetB
import Derived.Test.YtiocmkaplblelaaHoldB
namespace Go.Proofs.Ytiocmkaplblelaa
open Go.RowKit
theorem pow_cases (P : Nat → Prop) (h0 : P 0) (h1 : P 1) (h2 : P 2) (h3 : P 3) (h4 : P 4) (h5 : P 5) (h6 : P 6) (h7 : P 7) (h8 : P 8) : ∀ k, k ≤ 8 → P k
  | 0, _ => h0 | 1, _ => h1 | 2, _ => h2 | 3, _ => h3 | 4, _ => h4 | 5, _ => h5 | 6, _ => h6 | 7, _ => h7 | 8, _ => h8
  | _ + 9, h => by omega
def labV (n : Nat) (v : Int) : Value := .agg #[.int .u64 (n : Int), .int .i64 v]
/-- A label was returned; what was there stays. -/
def RetL (w : World) (n : Nat) (v : Int) (e : Ending) (w' : World) : Prop := e = .returned (.agg #[.int .u64 (n : Int), .int .i64 v]) ∧ Below w.heap.size w w'
def RetB (w : World) (b : Bool) (e : Ending) (w' : World) : Prop := e = .returned (.bool b) ∧ Below w.heap.size w w'
theorem or_bits {a b : Nat} {x y : Int} (ha : a < 18446744073709551616) (hb : b < 18446744073709551616) (hx : x = (a : Int)) (hy : y = (b : Int)) : bits .or .u64 x y = ((a ||| b : Nat) : Int) := by
  rw [hx, hy]; exact u64_or_nat a b ha hb
theorem and_bits {a b : Nat} {x y : Int} (ha : a < 18446744073709551616) (hb : b < 18446744073709551616) (hx : x = (a : Int)) (hy : y = (b : Int)) : bits .and .u64 x y = ((a &&& b : Nat) : Int) := by
  rw [hx, hy]; exact u64_and_nat a b ha hb
theorem andNot_bits {a b : Nat} {x y : Int} (ha : a < 18446744073709551616) (hb : b < 18446744073709551616) (hx : x = (a : Int)) (hy : y = (b : Int)) : (bits .andNot .u64 x y == 0) = decide (a &&& b = a) := by
  rw [hx, hy, u64_andNot_nat a b ha hb]
  have h := andNot_zero ha hb
  by_cases e : a &&& b = a
  · rw [h.2 e, decide_eq_true e]; rfl
  · rw [decide_eq_false e]
    have : a &&& (18446744073709551615 - b) ≠ 0 := fun g => e (h.1 g)
    simp only [beq_eq_false_iff_ne, ne_eq]
    omega
section
variable (a b : Nat) (x y v u : Int) (w : World) (hx : x = (a : Int)) (hy : y = (b : Int)) (ha : a < 18446744073709551616) (hb : b < 18446744073709551616)
include hx hy ha hb
end
def BoxR (g : Nat) (x v : Int) (W V : World) : Prop := V.cell? ⟨g, 0, none⟩ = some (.int .u64 x) ∧ V.cell? ⟨g, 1, none⟩ = some (.int .i64 v) ∧ Below W.heap.size W V
end Go.Proofs.Ytiocmkaplblelaa

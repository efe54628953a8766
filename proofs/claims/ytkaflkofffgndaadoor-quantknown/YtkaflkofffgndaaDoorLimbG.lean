/- Contract: Div. -/
import Derived.Test.YtkaflkofffgndaaDoorLimbF
import Derived.Test.YtkaflkofffgndaaDoorPlain5
namespace Go.Proofs.YtkaflkofffgndaaDoor
open Go.RowKit

set_option maxHeartbeats 400000 in
theorem of_x (a : Int) (w : World) :
    Calls Tryd.prog 12 #[.int .u64 a] w fun e w' => e = .returned (.agg #[.int .u64 a, .int .u64 0]) ∧ w.alloc (.cells #[.int .u64 a, .int .u64 0] 25) = w' := by
  go_enter Tryd.func12, Tryd.ntmps12
  go_wp2
  exact bodyPost_ret (v := .agg #[.int .u64 a, .int .u64 0]) (by simp [results, Tryd.results12, go_sem]) rfl ⟨rfl, rfl⟩

def mk64 (n : Nat) : Value := .int .u64 n
def DivR (a b c d b0 b1 q0 q1 q2 q3 r0 r1 : Int) (p : Bool) : Prop :=
  v2 b0 b1 = 0 ∧ p = false ∧ q0 = 0 ∧ q1 = 0 ∧ q2 = 0 ∧ q3 = 0 ∧ r0 = 0 ∧ r1 = 0 ∨
  0 < v2 b0 b1 ∧ p = true ∧ U64 q0 ∧ U64 q1 ∧ U64 q2 ∧ U64 q3 ∧ U64 r0 ∧ U64 r1 ∧ v4 q0 q1 q2 q3 = v4 a b c d / v2 b0 b1 ∧ v2 r0 r1 = v4 a b c d % v2 b0 b1
def IsDiv (Q : Int → Int → Int → Int → Int → Int → Bool → Prop) (v : Value) : Prop := ∃ (q0 q1 q2 q3 r0 r1 : Int) (p : Bool), Q q0 q1 q2 q3 r0 r1 p ∧ v = .tuple #[.agg #[.int .u64 q0, .int .u64 q1, .int .u64 q2, .int .u64 q3], .agg #[.int .u64 r0, .int .u64 r1], .bool p]
theorem v2_zero {b0 b1 : Int} (h0 : U64 b0) (h1 : U64 b1) : v2 b0 b1 = 0 ↔ b0 = 0 ∧ b1 = 0 := by unfold U64 v2 at *; omega

set_option maxHeartbeats 800000 in
theorem div0_c (a b c d b0 b1 : Int) (w : World) (hb0 : U64 b0) (hb1 : U64 b1) (hz : v2 b0 b1 = 0) :
    Calls Tryd.prog 32 #[.agg #[.int .u64 a, .int .u64 b, .int .u64 c, .int .u64 d], .agg #[.int .u64 b0, .int .u64 b1]] w (Ret w (IsDiv (DivR a b c d b0 b1))) := by
  have H : DivR a b c d b0 b1 0 0 0 0 0 0 false := Or.inl ⟨hz, rfl, rfl, rfl, rfl, rfl, rfl, rfl⟩
  have q := eqW2_yes ((v2_zero hb0 hb1).1 hz)
  clear hz
  go_enter Tryd.func32, Tryd.ntmps32
  go_upto_region 1 with fail
  go_region_held3 (fun w' => w'.cell? ⟨w.heap.size + 1, 0, none⟩ = some (.int .u64 b0) ∧ w'.cell? ⟨w.heap.size + 1, 1, none⟩ = some (.int .u64 b1)) (simp [go_sem]) (first | (go_at_call 12; refine (of_x _ _).mono ?_; rintro e wx ⟨rfl, rfl⟩))
  go_wp2
  go_region
  all_goals
    go_wp2
    exact bodyPost_ret (v := .tuple #[.agg #[.int .u64 0, .int .u64 0, .int .u64 0, .int .u64 0], .agg #[.int .u64 0, .int .u64 0], .bool false]) (by simp [results, Tryd.results32, go_sem]) rfl ⟨_, ⟨_, _, _, _, _, _, _, H, rfl⟩, rfl, by repeat (first | (with_reducible exact Below.refl _ _) | (with_reducible refine Below.drew ?_) | (with_reducible refine bel_alloc ?_ _))⟩
end Go.Proofs.YtkaflkofffgndaaDoor

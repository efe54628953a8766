/- Contracts: what the statements of the first layer use. -/
import Derived.Test.YtakofbkbbmpfeaaLimbI
namespace Go.Proofs.Ytakofbkbbmpfeaa
open Go.RowKit

def InRange (m : Int) (v : Value) : Prop := ∃ r : Int, (0 ≤ r ∧ r < m) ∧ v = .int .i64 r
set_option maxHeartbeats 400000 in
theorem pick_c (n m : Int) (w : World) (hm : 0 < m) (hm2 : m ≤ 1000000000000) :
    Calls Try.prog 5 #[.int .i64 n, .int .i64 m] w fun e w' => ∃ v, InRange m v ∧ e = .returned v ∧ w = w' := by
  have h1 : n.tmod m < m := Int.tmod_lt_of_pos n hm
  have h2 : -m < n.tmod m := by
    have := Int.lt_tmod_of_pos n hm
    omega
  obtain ⟨t, ht⟩ : ∃ t, n.tmod m = t := ⟨_, rfl⟩
  rw [ht] at h1 h2
  have hne : (m == 0) = false := by simp; omega
  by_cases hneg : t < 0
  · go_enter Try.func5, Try.ntmps5
    go_wp2
    go_ret
    exact ⟨_, ⟨_, ⟨by omega, by omega⟩, rfl⟩, rfl, rfl⟩
  · go_enter Try.func5, Try.ntmps5
    go_wp2
    go_ret
    exact ⟨_, ⟨_, ⟨by omega, by omega⟩, rfl⟩, rfl, rfl⟩

def IsU64 (v : Value) : Prop := ∃ x : Int, U64 x ∧ v = .int .u64 x
theorem u64_wrap (x : Int) : U64 (IntKind.u64.wrap x) := by
  rw [IntKind.wrap_u64]
  unfold U64
  omega
def IsTrue (v : Value) : Prop := v = .bool true
theorem known_eq {x y z u : Int} (h : MulR 0 1 0 1 x y z u) : eqW4 x y z u 0 0 1 0 = true := by
  obtain ⟨h0, h1, h2, h3, e⟩ := h
  refine eqW4_yes (v4_inj h0 h1 h2 h3 u64_0 u64_0 u64_1 u64_0 (e.trans ?_))
  simp [v4, v2]
end Go.Proofs.Ytakofbkbbmpfeaa

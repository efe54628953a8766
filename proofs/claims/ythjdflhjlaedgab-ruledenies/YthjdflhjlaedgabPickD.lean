/- pyxhand.Pick: its value. -/
import Derived.Test.YthjdflhjlaedgabCoreA
import Derived.WalkKit
namespace Go.Proofs.Ythjdflhjlaedgab
open Go.RowKit
def pickI (n m : Int) : Int := if n.tmod m < 0 then n.tmod m + m else n.tmod m
theorem pickI_range (n m : Int) (hm : 0 < m) : 0 ≤ pickI n m ∧ pickI n m < m := by
  have h1 : n.tmod m < m := Int.tmod_lt_of_pos n hm
  have h2 : -m < n.tmod m := by
    have := Int.lt_tmod_of_pos n hm
    omega
  unfold pickI
  split <;> omega
set_option maxHeartbeats 400000 in
theorem pick_d (n m r : Int) (w : World) (hm : 0 < m) (hm2 : m ≤ 1000000000000) (hr : pickI n m = r) :
    Calls Try.prog 5 #[.int .i64 n, .int .i64 m] w fun e w' => e = .returned (.int .i64 r) ∧ w = w' := by
  have h1 : n.tmod m < m := Int.tmod_lt_of_pos n hm
  have h2 : -m < n.tmod m := by
    have := Int.lt_tmod_of_pos n hm
    omega
  unfold pickI at hr
  obtain ⟨t, ht⟩ : ∃ t, n.tmod m = t := ⟨_, rfl⟩
  rw [ht] at h1 h2 hr
  have hne : (m == 0) = false := by simp; omega
  subst hr
  by_cases hneg : t < 0
  · rw [if_pos hneg]
    go_enter Try.func5, Try.ntmps5
    go_wp2
    go_ret
    exact ⟨rfl, rfl⟩
  · rw [if_neg hneg]
    go_enter Try.func5, Try.ntmps5
    go_wp2
    go_ret
    exact ⟨rfl, rfl⟩
theorem pick_n (n m : Int) (hm : 0 < m) : ∃ k : Nat, pickI n m = (k : Int) ∧ (k : Int) < m := by
  have h := pickI_range n m hm
  exact ⟨(pickI n m).toNat, by omega, by omega⟩
end Go.Proofs.Ythjdflhjlaedgab

/- Package pyxref1: TenNat, radix, Within, short. -/
import Derived.Test.YtipjeepcgdmomaaDoorRefJ
namespace Go.Proofs.YtipjeepcgdmomaaDoor
open Go.RowKit

theorem lenA {w : World} {A : Option Addr} {n cap k : Nat} {ds : List Nat} (h : DigC w A n cap ds) (hn : Norm ds) (hlt : dv ds < 10 ^ k) : n ≤ k := by
  have := norm_len hn hlt
  rwa [h.1] at this
theorem word_i (a : Int) (w : World) (ha : U64 a) : Calls Tryd.prog 12 #[.int .u64 a] w (RetN w a.toNat) := by
  obtain ⟨n, rfl⟩ := Int.eq_ofNat_of_zero_le ha.1
  rw [Int.toNat_natCast]
  exact word_c' n w (by have := ha.2; omega)
theorem dig_lit (w : World) (d : Nat) (hd : d < 10) : DigC (w.alloc (.cells #[.int .i64 (d : Int)] 3)) (some ⟨w.heap.size, 0, none⟩) 1 1 [d] := by
  refine ⟨rfl, ⟨Nat.le_refl _, fun h => by cases h⟩, by omega, by simpa using hd, fun _ => ⟨_, _, rfl, by simp, fun j hj => ?_⟩⟩
  obtain rfl : j = 0 := by omega
  simp

set_option maxRecDepth 100000 in
set_option maxHeartbeats 400000 in
theorem radix_c (w : World) : Calls Tryd.prog 41 #[] w (RetN w 18446744073709551616) := by
  go_enter Tryd.func41, Tryd.ntmps41
  go_wp2_with fail
  refine (word_i 18446744073709551615 _ (by unfold U64; omega)).mono ?_
  rintro e w1 ⟨A, n, k, ds, ⟨D, N, E⟩, rfl, hb⟩
  have l1 : n ≤ 20 := lenA D N (by rw [E]; decide)
  have EH := Lib.hid E
  clear E
  have hD2 := D.alloc (.cells #[.int .i64 ((1 : Nat) : Int)] 3)
  have hL := dig_lit w1 1 (by omega)
  have hb2 := hb.alloc hb.size (.cells #[.int .i64 ((1 : Nat) : Int)] 3)
  clear D
  go_wp2_with fail
  refine (addNat_c A (some ⟨w1.heap.size, 0, none⟩) n 1 k 1 ds [1] _ hD2 hL (by omega) (by omega)).mono ?_
  rintro e w2 ⟨A2, n2, k2, ds2, ⟨D2, N2, E2⟩, rfl, hb3⟩
  have E3 : dv ds2 = 18446744073709551616 := by rw [E2, EH.out]; rfl
  have E3H := Lib.hid E3
  clear E2 E3 hD2 hL
  go_wp2
  go_ret
  exact ⟨_, _, _, _, ⟨D2, N2, E3H.out⟩, rfl, hb2.trans (hb3.mono (by have := hb.size; simp; omega))⟩

theorem ret_int {k : IntKind} {a b : Int} (h : a = b) : Ending.returned (.int k a) = .returned (.int k b) := by rw [h]
def withinI (n lo hi : Int) : Int := max lo (min hi n)
set_option maxRecDepth 100000 in
set_option maxHeartbeats 400000 in
theorem within_c (n lo hi : Int) (w : World) : Calls Tryd.prog 13 #[.int .i64 n, .int .i64 lo, .int .i64 hi] w fun e w' => e = .returned (.int .i64 (withinI n lo hi)) ∧ w = w' := by
  go_enter Tryd.func13, Tryd.ntmps13
  go_wp2
  all_goals
    go_ret
    exact ⟨ret_int (by unfold withinI; omega), rfl⟩

theorem dv_ten (k : Nat) : dv ((List.replicate (k + 1) 0).set k 1) = 10 ^ k ∧ Norm ((List.replicate (k + 1) 0).set k 1) ∧ (∀ d ∈ (List.replicate (k + 1) 0).set k 1, d < 10) := by
  refine ⟨?_, Or.inr ?_, mem_set_lt (fun d hd => by rw [List.eq_of_mem_replicate hd]; decide) (by decide)⟩
  · have := dv_set (List.replicate (k + 1) 0) k 1 (by simp)
    rw [dv_rep, getD_rep] at this
    omega
  · simp [List.getD_eq_getElem?_getD]
end Go.Proofs.YtipjeepcgdmomaaDoor

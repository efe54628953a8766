/- Package mark, and its other in pyxref4: Step, Sum. -/
import Derived.Test.YtkjckdndkljeeaaBytesA
import Derived.Test.YtkjckdndkljeeaaMarkP
import Derived.Laws.Bits64b
namespace Go.Proofs.Ytkjckdndkljeeaa
open Go.RowKit
theorem or_rot (h : Nat) (hh : h < 18446744073709551616) : bits .or .u64 (IntKind.u64.wrap ((h : Int) * 512)) ((h : Int) / 36028797018963968) = (rotL h : Int) := by
  have e1 : IntKind.u64.wrap ((h : Int) * 512) = ((h * 512 % 18446744073709551616 : Nat) : Int) := by rw [IntKind.wrap_u64]; omega
  have e2 : (h : Int) / 36028797018963968 = ((h / 36028797018963968 : Nat) : Int) := by omega
  rw [e1, e2, bits_or_u64_nat _ _ (by omega) (by omega)]
  have e3 : h * 512 % 18446744073709551616 = 2 ^ 9 * (h % 36028797018963968) := by rw [Nat.mul_comm (2 ^ 9)]; exact Nat.mul_mod_mul_right 512 h 36028797018963968
  have h9 : h / 36028797018963968 < 2 ^ 9 := by omega
  unfold rotL
  rw [e3, Nat.two_pow_add_eq_or_of_lt h9]
theorem stp_is (r c : Nat) (hr : r < 18446744073709551616) (hc : c < 256) : IntKind.u64.wrap (bits .xor .u64 (r : Int) (c : Int) * 11400714819323198485) = (((r ^^^ c) * 11400714819323198485 % 18446744073709551616 : Nat) : Int) := by
  rw [bits_xor_u64_nat _ _ hr (by omega), IntKind.wrap_u64]
  generalize r ^^^ c = x
  omega
set_option maxHeartbeats 400000 in
theorem turned_c (h : Nat) (w : World) (hh : h < 18446744073709551616) :
    Calls Try.prog 67 #[.int .u64 (h : Int)] w fun e w' => e = .returned (.int .u64 (rotL h : Int)) ∧ w = w' := by
  go_enter Try.func67, Try.ntmps67
  go_wp2
  go_ret
  exact ⟨ret_int (or_rot h hh), rfl⟩
set_option maxHeartbeats 400000 in
theorem step_c (h c : Nat) (x : Int) (w : World) (hh : h < 18446744073709551616) (hc : c < 256) (hx : x = (c : Int)) :
    Calls Try.prog 65 #[.int .u64 (h : Int), .int .u8 x] w fun e w' => e = .returned (.int .u64 (stp h c : Int)) ∧ w = w' := by
  subst hx
  have HR := Lib.hid (rotL_lt hh)
  go_enter Try.func65, Try.ntmps65
  go_wp2_with (go_at_call 67; refine (turned_c h _ hh).mono ?_; rintro e w' ⟨rfl, rfl⟩)
  go_ret
  exact ⟨ret_int (stp_is _ _ HR.out hc), rfl⟩
theorem add_rot (h : Nat) (hh : h < 18446744073709551616) : IntKind.u64.wrap (IntKind.u64.wrap ((h : Int) * 512) + (h : Int) / 36028797018963968) = (rotL h : Int) := by
  have := rotL_lt hh
  unfold rotL at *
  rw [IntKind.wrap_u64, IntKind.wrap_u64]
  omega
theorem refStep_is (h c : Nat) (hh : h < 18446744073709551616) (hc : c < 256) : IntKind.u64.wrap (bits .xor .u64 (IntKind.u64.wrap (IntKind.u64.wrap ((h : Int) * 512) + (h : Int) / 36028797018963968)) (c : Int) * 11400714819323198485) = (stp h c : Int) := by
  rw [add_rot h hh]
  exact stp_is _ _ (rotL_lt hh) hc
set_option maxHeartbeats 400000 in
theorem refStep_c (h c : Nat) (x : Int) (w : World) (hh : h < 18446744073709551616) (hc : c < 256) (hx : x = (c : Int)) :
    Calls Try.prog 61 #[.int .u64 (h : Int), .int .u8 x] w fun e w' => e = .returned (.int .u64 (stp h c : Int)) ∧ w = w' := by
  subst hx
  go_enter Try.func61, Try.ntmps61
  go_wp2
  go_ret
  exact ⟨ret_int (refStep_is h c hh hc), rfl⟩
end Go.Proofs.Ytkjckdndkljeeaa

/- Package mark, and its other in pyxref4: Sum. -/
import Derived.Test.YtkjckdndkljeeaaMarkA
namespace Go.Proofs.Ytkjckdndkljeeaa
open Go.RowKit
theorem foldM_at {l : List UInt8} {k : Nat} (h : k < l.length) (s : Nat) : foldM s (l.take (k + 1)) = stp (foldM s (l.take k)) l[k].toNat := by
  rw [List.take_succ_eq_append_getElem h, foldM_app]
  unfold foldM
  rw [List.foldl_cons, List.foldl_nil]
theorem foldM_all {l : List UInt8} {k : Nat} (h : l.length ≤ k) (s : Nat) : foldM s (l.take k) = foldM s l := by rw [List.take_of_length_le h]
def SumRel (n : Nat) (l : List UInt8) (s : Nat) (x i : Value) : Prop := ∃ k : Nat, k ≤ n ∧ x = .int .u64 (foldM s (l.take k) : Int) ∧ i = .int .i64 k
set_option maxRecDepth 100000 in
set_option maxHeartbeats 800000 in
theorem sum_c (s : Nat) (y : Int) (A : Option Addr) (n c : Nat) (l : List UInt8) (w : World) (B : Nat) (hy : y = (s : Int)) (hs : s < 18446744073709551616) (hl : Bs w B A n c l) (hn : n ≤ 281474976710656) :
    Calls Try.prog 59 #[.int .u64 y, .slice A n c] w fun e w' => e = .returned (.int .u64 (sumM s l : Int)) ∧ w = w' := by
  subst hy
  have HL := Lib.hid hl
  clear hl
  go_enter Try.func59, Try.ntmps59
  go_wp2
  go_loop [5, 11] (fun x i => SumRel n l s x i) (fun _ i => n - (intOf i).toNat)
  case atStart => exact ⟨0, by omega, rfl, rfl⟩
  case round =>
    obtain ⟨k, hk, rfl, rfl⟩ := hrel
    have HF := Lib.hid (foldM_lt (l.take k) hs)
    by_cases hlt : k < n
    · obtain ⟨g, o, hkl, rfl, hg, hcell⟩ := HL.out.at_ hlt
      have HE := Lib.hid (foldM_at hkl s)
      have hlt' : (k : Int) < (n : Int) := by omega
      obtain ⟨x, hx⟩ : ∃ x : Nat, (l[k]'hkl).toNat = x := ⟨_, rfl⟩
      rw [hx] at hcell
      have hx256 : x < 256 := by rw [← hx]; exact u8_lt _
      have HX := Lib.hid hx
      clear hx
      go_wp2_with fail
      (with_reducible refine (step_c _ x _ _ HF.out hx256 rfl).mono ?_)
      rintro e w' ⟨rfl, rfl⟩
      go_wp2
      go_round
      case rel => exact ⟨k + 1, by omega, by rw [HE.out, HX.out], by go_num⟩
      case measure => simp [intOf]; omega
    · have HE := Lib.hid (foldM_all (show l.length ≤ k by have := HL.out.len; omega) s)
      have hlt' : ¬ (k : Int) < (n : Int) := by omega
      go_wp2_with fail
      (with_reducible refine (step_c _ 255 255 _ HF.out (by decide) rfl).mono ?_)
      rintro e w' ⟨rfl, rfl⟩
      go_wp2
      go_ret
      exact ⟨ret_int (by rw [HE.out, sumM_is]), rfl⟩
set_option maxRecDepth 100000 in
set_option maxHeartbeats 800000 in
theorem refSum_c (s : Nat) (y : Int) (A : Option Addr) (n c : Nat) (l : List UInt8) (w : World) (B : Nat) (hy : y = (s : Int)) (hs : s < 18446744073709551616) (hl : Bs w B A n c l) (hn : n ≤ 281474976710656) :
    Calls Try.prog 51 #[.int .u64 y, .slice A n c] w fun e w' => e = .returned (.int .u64 (sumM s l : Int)) ∧ w = w' := by
  subst hy
  have HL := Lib.hid hl
  clear hl
  go_enter Try.func51, Try.ntmps51
  go_wp2
  go_loop [5, 6] (fun x i => SumRel n l s x i) (fun _ i => n - (intOf i).toNat)
  case atStart => exact ⟨0, by omega, rfl, rfl⟩
  case round =>
    obtain ⟨k, hk, rfl, rfl⟩ := hrel
    have HF := Lib.hid (foldM_lt (l.take k) hs)
    by_cases hlt : k < n
    · obtain ⟨g, o, hkl, rfl, hg, hcell⟩ := HL.out.at_ hlt
      have HE := Lib.hid (foldM_at hkl s)
      have hlt' : (k : Int) < (n : Int) := by omega
      obtain ⟨x, hx⟩ : ∃ x : Nat, (l[k]'hkl).toNat = x := ⟨_, rfl⟩
      rw [hx] at hcell
      have hx256 : x < 256 := by rw [← hx]; exact u8_lt _
      have HX := Lib.hid hx
      clear hx
      go_wp2_with fail
      (with_reducible refine (refStep_c _ x _ _ HF.out hx256 rfl).mono ?_)
      rintro e w' ⟨rfl, rfl⟩
      go_wp2
      go_round
      case rel => exact ⟨k + 1, by omega, by rw [HE.out, HX.out], by go_num⟩
      case measure => simp [intOf]; omega
    · have HE := Lib.hid (foldM_all (show l.length ≤ k by have := HL.out.len; omega) s)
      have hlt' : ¬ (k : Int) < (n : Int) := by omega
      go_wp2_with fail
      (with_reducible refine (refStep_c _ 255 255 _ HF.out (by decide) rfl).mono ?_)
      rintro e w' ⟨rfl, rfl⟩
      go_wp2
      go_ret
      exact ⟨ret_int (by rw [HE.out, sumM_is]), rfl⟩
end Go.Proofs.Ytkjckdndkljeeaa

/- The statements of mark: the chapter's example; MarkKnown. -/
import Derived.Test.YtinoppcccpbmkaaMarkB
import Derived.Test.YtinoppcccpbmkaaMarkC
import Derived.Test.YtinoppcccpbmkaaOrd
namespace Go.Proofs.Ytinoppcccpbmkaa
open Go.RowKit
theorem step_v (y x z : Int) (h c : Nat) (w : World) (hh : h < 18446744073709551616) (hc : c < 256) (hy : y = (h : Int)) (hx : x = (c : Int)) (hz : (stp h c : Int) = z) :
    Calls Try.prog 8 #[.int .u64 y, .int .u8 x] w fun e w' => e = .returned (.int .u64 z) ∧ w = w' := by
  subst hy hz
  exact step_c h c x w hh hc hx
theorem s01 : (stp 0 1 : Int) = 11400714819323198485 := by decide +kernel
theorem be_1 : be8 1 = [0, 0, 0, 0, 0, 0, 0, 1] := by decide +kernel
theorem be_18 : be8 72623859790382856 = [1, 2, 3, 4, 5, 6, 7, 8] := by decide +kernel
set_option maxRecDepth 100000 in
set_option maxHeartbeats 800000 in
theorem known5_c (w : World) : Calls Try.prog 7 #[] w fun e w' => e = .returned (.bool true) ∧ Below w.heap.size w w' := by
  go_enter Try.func7, Try.ntmps7
  go_wp2_with fail
  (with_reducible refine (step_v 0 1 11400714819323198485 0 1 _ (by decide) (by decide) rfl rfl s01).mono ?_)
  rintro e w' ⟨rfl, rfl⟩
  go_wp2_with fail
  (with_reducible refine (bytes_c 1 1 _ rfl).mono ?_)
  rintro e w1 ⟨rfl, ho, hb⟩
  rw [be_1] at ho
  have HB := Lib.hid hb
  have hc := str_run ho.bs
  clear ho hb
  go_wp2
  go_ret
  exact ⟨rfl, HB.out⟩
theorem s55 : (stp 36028797018963968 0 : Int) = 11400714819323198485 := by decide +kernel
theorem s00 : (stp 0 0 : Int) = 0 := by decide +kernel
theorem s0f : (stp 0 255 : Int) = 11043459355016009963 := by decide +kernel
theorem s0ff : (stp 11043459355016009963 255 : Int) = 13533750080781156305 := by decide +kernel
theorem m0 : (sumM 0 [] : Int) = 11043459355016009963 := by decide +kernel
theorem m1 : (sumM 1 [] : Int) = 591575482565772011 := by decide +kernel
theorem m0f : (sumM 0 [255] : Int) = 13533750080781156305 := by decide +kernel
theorem sum_v (y z : Int) (s : Nat) (A : Option Addr) (n c : Nat) (l : List UInt8) (w : World) (hy : y = (s : Int)) (hs : s < 18446744073709551616) (hl : Bs w w.heap.size A n c l) (hn : n ≤ 281474976710656) (hz : (sumM s l : Int) = z) :
    Calls Try.prog 9 #[.int .u64 y, .slice A n c] w fun e w' => e = .returned (.int .u64 z) ∧ w = w' := by
  subst hz
  exact sum_c s y A n c l w _ hy hs hl hn
theorem bs_1 (x : UInt8) (w : World) (o : Obj) (ho : o = .cells #[.int .u8 (x.toNat : Int)] 5) : Bs (w.alloc o) (w.alloc o).heap.size (some ⟨w.heap.size, 0, none⟩) 1 1 [x] := by
  subst ho
  refine ⟨rfl, Nat.le_refl _, (fun e => by cases e), fun _ => ⟨w.heap.size, 0, rfl, by simp, fun j hj => ?_⟩⟩
  obtain rfl : j = 0 := by simp at hj; omega
  simp
set_option maxRecDepth 100000 in
set_option maxHeartbeats 1600000 in
theorem markKnown_c (w : World) : Calls Try.prog 3 #[] w fun e w' => e = .returned (.bool true) ∧ Below w.heap.size w w' := by
  go_enter Try.func3, Try.ntmps3
  go_wp2_with fail
  (with_reducible refine (known5_c _).mono ?_)
  rintro e w1 ⟨rfl, hb⟩
  have HB1 := Lib.hid hb
  clear hb
  go_wp2_with fail
  (with_reducible refine (step_v 36028797018963968 0 11400714819323198485 36028797018963968 0 _ (by decide) (by decide) rfl rfl s55).mono ?_)
  rintro e w' ⟨rfl, rfl⟩
  go_wp2_with fail
  (with_reducible refine (step_v 0 0 0 0 0 _ (by decide) (by decide) rfl rfl s00).mono ?_)
  rintro e w' ⟨rfl, rfl⟩
  go_wp2_with fail
  (with_reducible refine (sum_v 0 11043459355016009963 0 none 0 0 [] _ rfl (by decide) (Bs.nil_ _ _) (by decide) m0).mono ?_)
  rintro e w' ⟨rfl, rfl⟩
  go_wp2_with fail
  (with_reducible refine (step_v 0 255 11043459355016009963 0 255 _ (by decide) (by decide) rfl rfl s0f).mono ?_)
  rintro e w' ⟨rfl, rfl⟩
  go_wp2_with fail
  (with_reducible refine (sum_v 0 13533750080781156305 0 _ 1 1 [255] _ rfl (by decide) (bs_1 255 w1 (.cells #[.int .u8 255] 5) rfl) (by decide) m0f).mono ?_)
  rintro e w' ⟨rfl, rfl⟩
  go_wp2_with fail
  (with_reducible refine (step_v 0 255 11043459355016009963 0 255 _ (by decide) (by decide) rfl rfl s0f).mono ?_)
  rintro e w' ⟨rfl, rfl⟩
  go_wp2_with fail
  (with_reducible refine (step_v 11043459355016009963 255 13533750080781156305 11043459355016009963 255 _ (by decide) (by decide) rfl rfl s0ff).mono ?_)
  rintro e w' ⟨rfl, rfl⟩
  go_wp2_with fail
  (with_reducible refine (bytes_c 72623859790382856 72623859790382856 _ rfl).mono ?_)
  rintro e w2 ⟨rfl, ho, hb⟩
  rw [be_18, show (w1.alloc (.cells #[.int .u8 255] 5)).heap.size = w1.heap.size + 1 by simp] at ho
  have HB2 := Lib.hid (show Below w.heap.size w w2 from (HB1.out.alloc HB1.out.size _).trans (hb.mono (by have := HB1.out.size; simp; omega)))
  have hc := str_run ho.bs
  clear ho hb
  go_wp2_with fail
  (with_reducible refine (sum_v 1 591575482565772011 1 none 0 0 [] _ rfl (by decide) (Bs.nil_ _ _) (by decide) m1).mono ?_)
  rintro e w' ⟨rfl, rfl⟩
  go_wp2_with fail
  (with_reducible refine (sum_v 0 11043459355016009963 0 none 0 0 [] _ rfl (by decide) (Bs.nil_ _ _) (by decide) m0).mono ?_)
  rintro e w' ⟨rfl, rfl⟩
  go_wp2
  go_ret
  exact ⟨rfl, HB2.out⟩
end Go.Proofs.Ytinoppcccpbmkaa

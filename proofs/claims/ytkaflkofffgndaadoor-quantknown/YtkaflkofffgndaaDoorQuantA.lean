/- quant: farther, middle, known, step. -/
import Derived.Test.YtkaflkofffgndaaDoorDecF
import Derived.Test.YtkaflkofffgndaaDoorHold
namespace Go.Proofs.YtkaflkofffgndaaDoor
open Go.RowKit
def farB (neg odd : Bool) (side mode : Int) : Bool := if mode = 1 then true else if mode = 2 then neg else if mode = 3 then decide (0 ≤ side) else if mode = 4 then (decide (0 < side) || (decide (side = 0) && odd)) else false
set_option maxHeartbeats 800000 in
theorem farther_c (neg odd : Bool) (side mode : Int) (w : World) (hm : mode = 0 ∨ mode = 1 ∨ mode = 2 ∨ mode = 3 ∨ mode = 4) (hs : side = -1 ∨ side = 0 ∨ side = 1) :
    Calls Tryd.prog 48 #[.bool neg, .bool odd, .int .i64 side, .int .i64 mode] w (Ret w (IsBool (farB neg odd side mode))) := by
  rcases hm with rfl | rfl | rfl | rfl | rfl <;> rcases hs with rfl | rfl | rfl
  all_goals
    go_enter Tryd.func48, Tryd.ntmps48
    go_wp2
    go_ret
    exact ⟨_, rfl, rfl, Below.refl _ _⟩
set_option maxRecDepth 100000 in
set_option maxHeartbeats 800000 in
theorem middle_c (r0 r1 d0 d1 : Int) (w : World) (hr0 : U64 r0) (hr1 : U64 r1) (hd0 : U64 d0) (hd1 : U64 d1) (hle : v2 r0 r1 ≤ v2 d0 d1) :
    Calls Tryd.prog 49 #[.agg #[.int .u64 r0, .int .u64 r1], .agg #[.int .u64 d0, .int .u64 d1]] w (Ret w (IsInt (cmpI (v2 r0 r1) (v2 d0 d1 - v2 r0 r1)))) := by
  have W : HB w [(w.heap.size + 1, 25, #[.int .u64 d0, .int .u64 d1]), (w.heap.size, 25, #[.int .u64 r0, .int .u64 r1])] ((w.alloc (.cells #[.int .u64 r0, .int .u64 r1] 25)).alloc (.cells #[.int .u64 d0, .int .u64 d1] 25)) := by
    have h := ((HB.start (Below.refl _ w)).push #[.int .u64 r0, .int .u64 r1] 25).push #[.int .u64 d0, .int .u64 d1] 25
    simpa using h
  have HC := Lib.hid hle
  clear hle
  go_enter Tryd.func49, Tryd.ntmps49
  go_wp2_with fail
  refine (sub_c d0 d1 r0 r1 _ hd0 hd1 hr0 hr1).mono ?_
  rintro e w1 ⟨_, ⟨s0, s1, p, HS, rfl⟩, rfl, hb⟩
  replace W := W.below hb
  clear hb
  obtain ⟨rfl, hs0, hs1, es⟩ := sub_fin HS HC.out
  clear HS
  have ES := Lib.hid es
  clear es
  obtain ⟨lq, q0, q1⟩ := HB.two (t := 25) (g := w.heap.size) (a := .int .u64 r0) (b := .int .u64 r1) W (by simp)
  replace W := W.push #[.int .u64 s0, .int .u64 s1] 25
  go_wp2_with fail
  refine (cmp_c r0 r1 s0 s1 _ hr0 hr1 hs0 hs1).mono ?_
  rintro e w2 ⟨_, rfl, rfl, hb⟩
  replace W := W.below hb
  clear hb
  have HB1 := Lib.hid W.1
  clear W
  rw [ES.out]
  go_wp2
  go_ret
  exact ⟨_, rfl, rfl, HB1.out⟩
set_option maxHeartbeats 800000 in
theorem qknown_c (t mode : Int) (w : World) (h0 : 0 ≤ t) (h9 : t ≤ 9) (hm0 : 0 ≤ mode) (hm4 : mode ≤ 4) :
    Calls Tryd.prog 14 #[.int .i64 t, .int .i64 mode] w (Ret w (IsBool true)) := by
  go_enter Tryd.func14, Tryd.ntmps14
  go_wp2
  go_ret
  exact ⟨_, rfl, rfl, Below.refl _ _⟩
end Go.Proofs.YtkaflkofffgndaaDoor

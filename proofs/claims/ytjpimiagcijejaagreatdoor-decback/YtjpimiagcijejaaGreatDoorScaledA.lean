/- dec.Scaled, of small ones, where it answers OK. -/
import Derived.Test.YtjpimiagcijejaaGreatDoorDecF
import Derived.Test.YtjpimiagcijejaaGreatDoorHold
namespace Go.Proofs.YtjpimiagcijejaaGreatDoor
open Go.RowKit
set_option maxRecDepth 100000 in
set_option maxHeartbeats 1600000 in
theorem scaled_d (n : Bool) (a b s z t : Int) (w : World) (h : DecIs n a b z) (hz : Sm z) (h0 : 0 ≤ s) (hst : s ≤ t) (h9 : t ≤ 9) :
    Calls Tryz.prog 10 #[.agg #[.bool n, .int .u64 a, .int .u64 b, .int .i64 s], .int .i64 t] w (Ret w (IsDecE (zAt z s t) t 0)) := by
  rw [zAt_of s t h]
  have s9 : s ≤ 9 := by omega
  have t0 : 0 ≤ t := by omega
  have HU := Lib.hid (up_lt9 (z := z) (s := s) (t := t) hz h0 h9)
  have HH := Lib.hid h
  have HZ := Lib.hid hz
  clear h hz
  have W : HB w [(w.heap.size + 1, 25, #[.bool false, .int .u64 0, .int .u64 0, .int .i64 0]), (w.heap.size, 25, #[.bool n, .int .u64 a, .int .u64 b, .int .i64 s])] ((w.alloc (.cells #[.bool n, .int .u64 a, .int .u64 b, .int .i64 s] 25)).alloc (.cells #[.bool false, .int .u64 0, .int .u64 0, .int .i64 0] 25)) := by
    have h := ((HB.start (Below.refl _ w)).push #[.bool n, .int .u64 a, .int .u64 b, .int .i64 s] 25).push #[.bool false, .int .u64 0, .int .u64 0, .int .i64 0] 25
    simpa using h
  have hlg : w.heap.size ≤ w.heap.size + 1 := by omega
  go_enter Tryz.func10, Tryz.ntmps10
  go_wp2_with fail
  refine (right_d n a b s z _ HH.out (sm_30 HZ.out) h0 s9).mono ?_
  rintro e w1 ⟨_, rfl, rfl, hb⟩
  replace W := W.below hb
  clear hb
  obtain ⟨lq, q0, q1, q2, q3⟩ := HB.dec (t := 25) (g := w.heap.size) (a := .bool n) (b := .int .u64 a) (c := .int .u64 b) (d := .int .i64 s) W (by simp)
  go_wp2_with fail
  refine (sizeAt_d n a b s t z _ HH.out HZ.out h0 hst h9).mono ?_
  rintro e w2 ⟨_, ⟨x, y, ⟨hx, hy, ex⟩, rfl⟩, rfl, hb⟩
  replace W := W.below hb
  clear hb lq q0 q1 q2 q3
  have EX := Lib.hid ex
  clear ex
  obtain ⟨lq, q0, q1, q2, q3⟩ := HB.dec (t := 25) (g := w.heap.size) (a := .bool n) (b := .int .u64 a) (c := .int .u64 b) (d := .int .i64 s) W (by simp)
  replace W := W.push #[.int .u64 x, .int .u64 y] 23
  go_wp2_with fail
  refine (checked_d n x y t _ hx hy (by rw [EX.out]; have := HU.out; omega) t0 h9).mono ?_
  rintro e w3 ⟨_, ⟨n2, a2, b2, D2, rfl⟩, rfl, hb⟩
  rw [EX.out] at D2
  have HD2 := Lib.hid D2
  replace W := W.below hb
  clear hb lq q0 q1 q2 q3 D2
  obtain ⟨ly, y0, y1, y2, y3⟩ := HB.dec (t := 25) (g := w.heap.size + 1) (a := .bool false) (b := .int .u64 0) (c := .int .u64 0) (d := .int .i64 0) W (by simp)
  have Bz := HB.blk (g := w.heap.size + 1) (t := 25) (cs := #[.bool false, .int .u64 0, .int .u64 0, .int .i64 0]) W (by simp)
  have fz0 := Bz.frozen 0
  have fz1 := Bz.frozen 1
  have fz2 := Bz.frozen 2
  have fz3 := Bz.frozen 3
  clear Bz
  have HB1 := Lib.hid W.1
  clear W
  go_wp2
  exact bodyPost_ret (v := .tuple #[.agg #[.bool n2, .int .u64 a2, .int .u64 b2, .int .i64 t], .int .i64 0]) (by simp [results, Tryz.results10, go_sem, y0, y1, y2, y3]) rfl ⟨_, ⟨_, _, _, HD2.out, rfl⟩, rfl, bel4 HB1.out hlg⟩
end Go.Proofs.YtjpimiagcijejaaGreatDoor

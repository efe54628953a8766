/- Package dec: contracts at small decimals: Add, cmpSize, Cmp. -/
import Derived.Test.YtlhceelkefgjhaaGreatDoorDecD
namespace Go.Proofs.YtlhceelkefgjhaaGreatDoor
open Go.RowKit

/-- A decimal's number at a greater Scale, with its sign. -/
def zAt (z s t : Int) : Int := z * ((10 ^ (t - s).toNat : Nat) : Int)
theorem zAt_of {n : Bool} {a b z : Int} (s t : Int) (h : DecIs n a b z) : zAt z s t = zOf n (upN z s t) := by
  obtain ⟨rfl, _⟩ := h
  unfold zAt zOf upN
  rw [Int.natCast_mul]
  generalize ((10 ^ (t - s).toNat : Nat) : Int) = p
  by_cases hz : z < 0
  · rw [decide_eq_true hz, if_pos rfl, show (z.natAbs : Int) = -z by omega, Int.neg_mul, Int.neg_neg]
  · rw [decide_eq_false hz, if_neg (by simp), show (z.natAbs : Int) = z by omega]
theorem zOf_add (n : Bool) (M N : Nat) : zOf n M + zOf n N = zOf n (M + N) := by unfold zOf; cases n <;> simp <;> omega
theorem zOf_ge (n : Bool) (M N : Nat) (h : N ≤ M) : zOf n M + zOf (!n) N = zOf n (M - N) := by unfold zOf; cases n <;> simp <;> omega
theorem zOf_lt (n : Bool) (M N : Nat) (h : M < N) : zOf n M + zOf (!n) N = zOf (!n) (N - M) := by unfold zOf; cases n <;> simp <;> omega
theorem up_lt9 {z s t : Int} (hz : Sm z) (h0 : 0 ≤ s) (h9 : t ≤ 9) : upN z s t < 100000000000000000000000000000 := sm_mul hz (by omega)
theorem add_fin {x y x' y' s0 s1 : Int} {p : Bool} (h : AddR x y x' y' s0 s1 p) (hl : v2 x y + v2 x' y' < 1000000000000000000000000000000) : p = true ∧ U64 s0 ∧ U64 s1 ∧ v2 s0 s1 = v2 x y + v2 x' y' := by
  obtain ⟨a, b, ⟨_, hp, e⟩ | ⟨hl2, _⟩⟩ := h
  · exact ⟨hp, a, b, e⟩
  · omega
theorem sm_30 {z : Int} (h : Sm z) : z.natAbs < 1000000000000000000000000000000 := by unfold Sm at h; omega

set_option maxRecDepth 100000 in
set_option maxHeartbeats 1600000 in
theorem add_same (n : Bool) (a b s z a' b' s' z' t : Int) (w : World) (h' : DecIs n a' b' z') (h : DecIs n a b z) (hz : Sm z) (hz' : Sm z') (h0 : 0 ≤ s) (h0' : 0 ≤ s') (h9 : s ≤ 9) (h9' : s' ≤ 9) (ht : (s < s' ∧ s' = t) ∨ (s' ≤ s ∧ s = t)) :
    Calls Tryz.prog 6 #[.agg #[.bool n, .int .u64 a, .int .u64 b, .int .i64 s], .agg #[.bool n, .int .u64 a', .int .u64 b', .int .i64 s']] w (Ret w (IsDecE (zAt z s t + zAt z' s' t) t 0)) := by
  rw [zAt_of s t h, zAt_of s' t h']
  rw [zOf_add]
  have ht9 : t ≤ 9 := by omega
  have ht0 : 0 ≤ t := by omega
  have hst : s ≤ t := by omega
  have hst' : s' ≤ t := by omega
  have uL := Lib.hid (up_lt9 hz h0 ht9)
  have uL' := Lib.hid (up_lt9 hz' h0' ht9)
  have hH := Lib.hid h
  have h'H := Lib.hid h'
  have hzH := Lib.hid hz
  have hz'H := Lib.hid hz'
  clear h h' hz hz'
  have hlg : w.heap.size ≤ w.heap.size + 1 + 1 := by omega
  rcases ht with ⟨hss, rfl⟩ | ⟨hss, rfl⟩
  · cases n
    · have W : HB w [(w.heap.size + 1 + 1, 25, #[.bool false, .int .u64 0, .int .u64 0, .int .i64 0]), (w.heap.size + 1, 25, #[.bool false, .int .u64 a', .int .u64 b', .int .i64 s']), (w.heap.size, 25, #[.bool false, .int .u64 a, .int .u64 b, .int .i64 s])] (((w.alloc (.cells #[.bool false, .int .u64 a, .int .u64 b, .int .i64 s] 25)).alloc (.cells #[.bool false, .int .u64 a', .int .u64 b', .int .i64 s'] 25)).alloc (.cells #[.bool false, .int .u64 0, .int .u64 0, .int .i64 0] 25)) := by
        have h := (((HB.start (Below.refl _ w)).push #[.bool false, .int .u64 a, .int .u64 b, .int .i64 s] 25).push #[.bool false, .int .u64 a', .int .u64 b', .int .i64 s'] 25).push #[.bool false, .int .u64 0, .int .u64 0, .int .i64 0] 25
        simpa using h
      go_enter Tryz.func6, Tryz.ntmps6
      go_wp2_with fail
      refine (right_d false a b s z _ hH.out (sm_30 hzH.out) h0 h9).mono ?_
      rintro e w1 ⟨_, rfl, rfl, hb⟩
      replace W := W.below hb
      clear hb
      obtain ⟨lq, q0, q1, q2, q3⟩ := HB.dec (t := 25) (g := w.heap.size + 1) (a := .bool false) (b := .int .u64 a') (c := .int .u64 b') (d := .int .i64 s') W (by simp)
      go_wp2_with fail
      refine (right_d false a' b' s' z' _ h'H.out (sm_30 hz'H.out) h0' h9').mono ?_
      rintro e w2 ⟨_, rfl, rfl, hb⟩
      replace W := W.below hb
      clear hb lq q0 q1 q2 q3
      obtain ⟨lp, p0, p1, p2, p3⟩ := HB.dec (t := 25) (g := w.heap.size) (a := .bool false) (b := .int .u64 a) (c := .int .u64 b) (d := .int .i64 s) W (by simp)
      obtain ⟨lq, q0, q1, q2, q3⟩ := HB.dec (t := 25) (g := w.heap.size + 1) (a := .bool false) (b := .int .u64 a') (c := .int .u64 b') (d := .int .i64 s') W (by simp)
      go_wp2_with fail
      refine (bothAt_d false a b s z false a' b' s' z' s' _ hH.out h'H.out hzH.out hz'H.out h0 h0' hst hst' ht9).mono ?_
      rintro e w3 ⟨_, ⟨x, y, x', y', ⟨hx, hy, ex⟩, ⟨hx', hy', ex'⟩, rfl⟩, rfl, hb⟩
      replace W := W.below hb
      clear hb lq q0 q1 q2 q3 lp p0 p1 p2 p3
      have EX := Lib.hid ex
      have EX' := Lib.hid ex'
      clear ex ex'
      obtain ⟨lp, p0, p1, p2, p3⟩ := HB.dec (t := 25) (g := w.heap.size) (a := .bool false) (b := .int .u64 a) (c := .int .u64 b) (d := .int .i64 s) W (by simp)
      obtain ⟨lq, q0, q1, q2, q3⟩ := HB.dec (t := 25) (g := w.heap.size + 1) (a := .bool false) (b := .int .u64 a') (c := .int .u64 b') (d := .int .i64 s') W (by simp)
      replace W := (W.push #[.int .u64 x, .int .u64 y] 23).push #[.int .u64 x', .int .u64 y'] 23
      simp only [World.size_alloc] at W
      go_wp2_with fail
      refine (add_c x y x' y' _ hx hy hx' hy').mono ?_
      rintro e w4 ⟨_, ⟨s0, s1, p, HS, rfl⟩, rfl, hb⟩
      replace W := W.below hb
      clear hb lq q0 q1 q2 q3 lp p0 p1 p2 p3
      obtain ⟨rfl, hs0, hs1, es⟩ := add_fin HS (by rw [EX.out, EX'.out]; have := uL.out; have := uL'.out; omega)
      rw [EX.out, EX'.out] at es
      have hsl : v2 s0 s1 < 1000000000000000000000000000000 := by rw [es]; have := uL.out; have := uL'.out; omega
      have ES := Lib.hid es
      have HSL := Lib.hid hsl
      clear es hsl HS
      obtain ⟨lp, p0, p1, p2, p3⟩ := HB.dec (t := 25) (g := w.heap.size) (a := .bool false) (b := .int .u64 a) (c := .int .u64 b) (d := .int .i64 s) W (by simp)
      replace W := W.push #[.int .u64 s0, .int .u64 s1] 23
      go_wp2_with fail
      refine (checked_d false s0 s1 s' _ hs0 hs1 HSL.out ht0 ht9).mono ?_
      rintro e w5 ⟨_, ⟨m, c, d, HD, rfl⟩, rfl, hb⟩
      replace W := W.below hb
      clear hb lp p0 p1 p2 p3
      rw [ES.out] at HD
      obtain ⟨lq, q0, q1, q2, q3⟩ := HB.dec (t := 25) (g := w.heap.size + 1 + 1) (a := .bool false) (b := .int .u64 0) (c := .int .u64 0) (d := .int .i64 0) W (by simp)
      have Bz := HB.blk (g := w.heap.size + 1 + 1) (t := 25) (cs := #[.bool false, .int .u64 0, .int .u64 0, .int .i64 0]) W (by simp)
      have fz0 := Bz.frozen 0
      have fz1 := Bz.frozen 1
      have fz2 := Bz.frozen 2
      have fz3 := Bz.frozen 3
      clear Bz
      have HB1 := Lib.hid W.1
      clear W
      have HDh := Lib.hid HD
      clear HD
      go_wp2
      exact bodyPost_ret (v := .tuple #[.agg #[.bool m, .int .u64 c, .int .u64 d, .int .i64 s'], .int .i64 0]) (by simp [results, Tryz.results6, go_sem, q0, q1, q2, q3]) rfl ⟨_, ⟨_, _, _, HDh.out, rfl⟩, rfl, bel4 HB1.out hlg⟩
    · have W : HB w [(w.heap.size + 1 + 1, 25, #[.bool false, .int .u64 0, .int .u64 0, .int .i64 0]), (w.heap.size + 1, 25, #[.bool true, .int .u64 a', .int .u64 b', .int .i64 s']), (w.heap.size, 25, #[.bool true, .int .u64 a, .int .u64 b, .int .i64 s])] (((w.alloc (.cells #[.bool true, .int .u64 a, .int .u64 b, .int .i64 s] 25)).alloc (.cells #[.bool true, .int .u64 a', .int .u64 b', .int .i64 s'] 25)).alloc (.cells #[.bool false, .int .u64 0, .int .u64 0, .int .i64 0] 25)) := by
        have h := (((HB.start (Below.refl _ w)).push #[.bool true, .int .u64 a, .int .u64 b, .int .i64 s] 25).push #[.bool true, .int .u64 a', .int .u64 b', .int .i64 s'] 25).push #[.bool false, .int .u64 0, .int .u64 0, .int .i64 0] 25
        simpa using h
      go_enter Tryz.func6, Tryz.ntmps6
      go_wp2_with fail
      refine (right_d true a b s z _ hH.out (sm_30 hzH.out) h0 h9).mono ?_
      rintro e w1 ⟨_, rfl, rfl, hb⟩
      replace W := W.below hb
      clear hb
      obtain ⟨lq, q0, q1, q2, q3⟩ := HB.dec (t := 25) (g := w.heap.size + 1) (a := .bool true) (b := .int .u64 a') (c := .int .u64 b') (d := .int .i64 s') W (by simp)
      go_wp2_with fail
      refine (right_d true a' b' s' z' _ h'H.out (sm_30 hz'H.out) h0' h9').mono ?_
      rintro e w2 ⟨_, rfl, rfl, hb⟩
      replace W := W.below hb
      clear hb lq q0 q1 q2 q3
      obtain ⟨lp, p0, p1, p2, p3⟩ := HB.dec (t := 25) (g := w.heap.size) (a := .bool true) (b := .int .u64 a) (c := .int .u64 b) (d := .int .i64 s) W (by simp)
      obtain ⟨lq, q0, q1, q2, q3⟩ := HB.dec (t := 25) (g := w.heap.size + 1) (a := .bool true) (b := .int .u64 a') (c := .int .u64 b') (d := .int .i64 s') W (by simp)
      go_wp2_with fail
      refine (bothAt_d true a b s z true a' b' s' z' s' _ hH.out h'H.out hzH.out hz'H.out h0 h0' hst hst' ht9).mono ?_
      rintro e w3 ⟨_, ⟨x, y, x', y', ⟨hx, hy, ex⟩, ⟨hx', hy', ex'⟩, rfl⟩, rfl, hb⟩
      replace W := W.below hb
      clear hb lq q0 q1 q2 q3 lp p0 p1 p2 p3
      have EX := Lib.hid ex
      have EX' := Lib.hid ex'
      clear ex ex'
      obtain ⟨lp, p0, p1, p2, p3⟩ := HB.dec (t := 25) (g := w.heap.size) (a := .bool true) (b := .int .u64 a) (c := .int .u64 b) (d := .int .i64 s) W (by simp)
      obtain ⟨lq, q0, q1, q2, q3⟩ := HB.dec (t := 25) (g := w.heap.size + 1) (a := .bool true) (b := .int .u64 a') (c := .int .u64 b') (d := .int .i64 s') W (by simp)
      replace W := (W.push #[.int .u64 x, .int .u64 y] 23).push #[.int .u64 x', .int .u64 y'] 23
      simp only [World.size_alloc] at W
      go_wp2_with fail
      refine (add_c x y x' y' _ hx hy hx' hy').mono ?_
      rintro e w4 ⟨_, ⟨s0, s1, p, HS, rfl⟩, rfl, hb⟩
      replace W := W.below hb
      clear hb lq q0 q1 q2 q3 lp p0 p1 p2 p3
      obtain ⟨rfl, hs0, hs1, es⟩ := add_fin HS (by rw [EX.out, EX'.out]; have := uL.out; have := uL'.out; omega)
      rw [EX.out, EX'.out] at es
      have hsl : v2 s0 s1 < 1000000000000000000000000000000 := by rw [es]; have := uL.out; have := uL'.out; omega
      have ES := Lib.hid es
      have HSL := Lib.hid hsl
      clear es hsl HS
      obtain ⟨lp, p0, p1, p2, p3⟩ := HB.dec (t := 25) (g := w.heap.size) (a := .bool true) (b := .int .u64 a) (c := .int .u64 b) (d := .int .i64 s) W (by simp)
      replace W := W.push #[.int .u64 s0, .int .u64 s1] 23
      go_wp2_with fail
      refine (checked_d true s0 s1 s' _ hs0 hs1 HSL.out ht0 ht9).mono ?_
      rintro e w5 ⟨_, ⟨m, c, d, HD, rfl⟩, rfl, hb⟩
      replace W := W.below hb
      clear hb lp p0 p1 p2 p3
      rw [ES.out] at HD
      obtain ⟨lq, q0, q1, q2, q3⟩ := HB.dec (t := 25) (g := w.heap.size + 1 + 1) (a := .bool false) (b := .int .u64 0) (c := .int .u64 0) (d := .int .i64 0) W (by simp)
      have Bz := HB.blk (g := w.heap.size + 1 + 1) (t := 25) (cs := #[.bool false, .int .u64 0, .int .u64 0, .int .i64 0]) W (by simp)
      have fz0 := Bz.frozen 0
      have fz1 := Bz.frozen 1
      have fz2 := Bz.frozen 2
      have fz3 := Bz.frozen 3
      clear Bz
      have HB1 := Lib.hid W.1
      clear W
      have HDh := Lib.hid HD
      clear HD
      go_wp2
      exact bodyPost_ret (v := .tuple #[.agg #[.bool m, .int .u64 c, .int .u64 d, .int .i64 s'], .int .i64 0]) (by simp [results, Tryz.results6, go_sem, q0, q1, q2, q3]) rfl ⟨_, ⟨_, _, _, HDh.out, rfl⟩, rfl, bel4 HB1.out hlg⟩
  · cases n
    · have W : HB w [(w.heap.size + 1 + 1, 25, #[.bool false, .int .u64 0, .int .u64 0, .int .i64 0]), (w.heap.size + 1, 25, #[.bool false, .int .u64 a', .int .u64 b', .int .i64 s']), (w.heap.size, 25, #[.bool false, .int .u64 a, .int .u64 b, .int .i64 s])] (((w.alloc (.cells #[.bool false, .int .u64 a, .int .u64 b, .int .i64 s] 25)).alloc (.cells #[.bool false, .int .u64 a', .int .u64 b', .int .i64 s'] 25)).alloc (.cells #[.bool false, .int .u64 0, .int .u64 0, .int .i64 0] 25)) := by
        have h := (((HB.start (Below.refl _ w)).push #[.bool false, .int .u64 a, .int .u64 b, .int .i64 s] 25).push #[.bool false, .int .u64 a', .int .u64 b', .int .i64 s'] 25).push #[.bool false, .int .u64 0, .int .u64 0, .int .i64 0] 25
        simpa using h
      go_enter Tryz.func6, Tryz.ntmps6
      go_wp2_with fail
      refine (right_d false a b s z _ hH.out (sm_30 hzH.out) h0 h9).mono ?_
      rintro e w1 ⟨_, rfl, rfl, hb⟩
      replace W := W.below hb
      clear hb
      obtain ⟨lq, q0, q1, q2, q3⟩ := HB.dec (t := 25) (g := w.heap.size + 1) (a := .bool false) (b := .int .u64 a') (c := .int .u64 b') (d := .int .i64 s') W (by simp)
      go_wp2_with fail
      refine (right_d false a' b' s' z' _ h'H.out (sm_30 hz'H.out) h0' h9').mono ?_
      rintro e w2 ⟨_, rfl, rfl, hb⟩
      replace W := W.below hb
      clear hb lq q0 q1 q2 q3
      obtain ⟨lp, p0, p1, p2, p3⟩ := HB.dec (t := 25) (g := w.heap.size) (a := .bool false) (b := .int .u64 a) (c := .int .u64 b) (d := .int .i64 s) W (by simp)
      obtain ⟨lq, q0, q1, q2, q3⟩ := HB.dec (t := 25) (g := w.heap.size + 1) (a := .bool false) (b := .int .u64 a') (c := .int .u64 b') (d := .int .i64 s') W (by simp)
      go_wp2_with fail
      refine (bothAt_d false a b s z false a' b' s' z' s _ hH.out h'H.out hzH.out hz'H.out h0 h0' hst hst' ht9).mono ?_
      rintro e w3 ⟨_, ⟨x, y, x', y', ⟨hx, hy, ex⟩, ⟨hx', hy', ex'⟩, rfl⟩, rfl, hb⟩
      replace W := W.below hb
      clear hb lq q0 q1 q2 q3 lp p0 p1 p2 p3
      have EX := Lib.hid ex
      have EX' := Lib.hid ex'
      clear ex ex'
      obtain ⟨lp, p0, p1, p2, p3⟩ := HB.dec (t := 25) (g := w.heap.size) (a := .bool false) (b := .int .u64 a) (c := .int .u64 b) (d := .int .i64 s) W (by simp)
      obtain ⟨lq, q0, q1, q2, q3⟩ := HB.dec (t := 25) (g := w.heap.size + 1) (a := .bool false) (b := .int .u64 a') (c := .int .u64 b') (d := .int .i64 s') W (by simp)
      replace W := (W.push #[.int .u64 x, .int .u64 y] 23).push #[.int .u64 x', .int .u64 y'] 23
      simp only [World.size_alloc] at W
      go_wp2_with fail
      refine (add_c x y x' y' _ hx hy hx' hy').mono ?_
      rintro e w4 ⟨_, ⟨s0, s1, p, HS, rfl⟩, rfl, hb⟩
      replace W := W.below hb
      clear hb lq q0 q1 q2 q3 lp p0 p1 p2 p3
      obtain ⟨rfl, hs0, hs1, es⟩ := add_fin HS (by rw [EX.out, EX'.out]; have := uL.out; have := uL'.out; omega)
      rw [EX.out, EX'.out] at es
      have hsl : v2 s0 s1 < 1000000000000000000000000000000 := by rw [es]; have := uL.out; have := uL'.out; omega
      have ES := Lib.hid es
      have HSL := Lib.hid hsl
      clear es hsl HS
      obtain ⟨lp, p0, p1, p2, p3⟩ := HB.dec (t := 25) (g := w.heap.size) (a := .bool false) (b := .int .u64 a) (c := .int .u64 b) (d := .int .i64 s) W (by simp)
      replace W := W.push #[.int .u64 s0, .int .u64 s1] 23
      go_wp2_with fail
      refine (checked_d false s0 s1 s _ hs0 hs1 HSL.out ht0 ht9).mono ?_
      rintro e w5 ⟨_, ⟨m, c, d, HD, rfl⟩, rfl, hb⟩
      replace W := W.below hb
      clear hb lp p0 p1 p2 p3
      rw [ES.out] at HD
      obtain ⟨lq, q0, q1, q2, q3⟩ := HB.dec (t := 25) (g := w.heap.size + 1 + 1) (a := .bool false) (b := .int .u64 0) (c := .int .u64 0) (d := .int .i64 0) W (by simp)
      have Bz := HB.blk (g := w.heap.size + 1 + 1) (t := 25) (cs := #[.bool false, .int .u64 0, .int .u64 0, .int .i64 0]) W (by simp)
      have fz0 := Bz.frozen 0
      have fz1 := Bz.frozen 1
      have fz2 := Bz.frozen 2
      have fz3 := Bz.frozen 3
      clear Bz
      have HB1 := Lib.hid W.1
      clear W
      have HDh := Lib.hid HD
      clear HD
      go_wp2
      exact bodyPost_ret (v := .tuple #[.agg #[.bool m, .int .u64 c, .int .u64 d, .int .i64 s], .int .i64 0]) (by simp [results, Tryz.results6, go_sem, q0, q1, q2, q3]) rfl ⟨_, ⟨_, _, _, HDh.out, rfl⟩, rfl, bel4 HB1.out hlg⟩
    · have W : HB w [(w.heap.size + 1 + 1, 25, #[.bool false, .int .u64 0, .int .u64 0, .int .i64 0]), (w.heap.size + 1, 25, #[.bool true, .int .u64 a', .int .u64 b', .int .i64 s']), (w.heap.size, 25, #[.bool true, .int .u64 a, .int .u64 b, .int .i64 s])] (((w.alloc (.cells #[.bool true, .int .u64 a, .int .u64 b, .int .i64 s] 25)).alloc (.cells #[.bool true, .int .u64 a', .int .u64 b', .int .i64 s'] 25)).alloc (.cells #[.bool false, .int .u64 0, .int .u64 0, .int .i64 0] 25)) := by
        have h := (((HB.start (Below.refl _ w)).push #[.bool true, .int .u64 a, .int .u64 b, .int .i64 s] 25).push #[.bool true, .int .u64 a', .int .u64 b', .int .i64 s'] 25).push #[.bool false, .int .u64 0, .int .u64 0, .int .i64 0] 25
        simpa using h
      go_enter Tryz.func6, Tryz.ntmps6
      go_wp2_with fail
      refine (right_d true a b s z _ hH.out (sm_30 hzH.out) h0 h9).mono ?_
      rintro e w1 ⟨_, rfl, rfl, hb⟩
      replace W := W.below hb
      clear hb
      obtain ⟨lq, q0, q1, q2, q3⟩ := HB.dec (t := 25) (g := w.heap.size + 1) (a := .bool true) (b := .int .u64 a') (c := .int .u64 b') (d := .int .i64 s') W (by simp)
      go_wp2_with fail
      refine (right_d true a' b' s' z' _ h'H.out (sm_30 hz'H.out) h0' h9').mono ?_
      rintro e w2 ⟨_, rfl, rfl, hb⟩
      replace W := W.below hb
      clear hb lq q0 q1 q2 q3
      obtain ⟨lp, p0, p1, p2, p3⟩ := HB.dec (t := 25) (g := w.heap.size) (a := .bool true) (b := .int .u64 a) (c := .int .u64 b) (d := .int .i64 s) W (by simp)
      obtain ⟨lq, q0, q1, q2, q3⟩ := HB.dec (t := 25) (g := w.heap.size + 1) (a := .bool true) (b := .int .u64 a') (c := .int .u64 b') (d := .int .i64 s') W (by simp)
      go_wp2_with fail
      refine (bothAt_d true a b s z true a' b' s' z' s _ hH.out h'H.out hzH.out hz'H.out h0 h0' hst hst' ht9).mono ?_
      rintro e w3 ⟨_, ⟨x, y, x', y', ⟨hx, hy, ex⟩, ⟨hx', hy', ex'⟩, rfl⟩, rfl, hb⟩
      replace W := W.below hb
      clear hb lq q0 q1 q2 q3 lp p0 p1 p2 p3
      have EX := Lib.hid ex
      have EX' := Lib.hid ex'
      clear ex ex'
      obtain ⟨lp, p0, p1, p2, p3⟩ := HB.dec (t := 25) (g := w.heap.size) (a := .bool true) (b := .int .u64 a) (c := .int .u64 b) (d := .int .i64 s) W (by simp)
      obtain ⟨lq, q0, q1, q2, q3⟩ := HB.dec (t := 25) (g := w.heap.size + 1) (a := .bool true) (b := .int .u64 a') (c := .int .u64 b') (d := .int .i64 s') W (by simp)
      replace W := (W.push #[.int .u64 x, .int .u64 y] 23).push #[.int .u64 x', .int .u64 y'] 23
      simp only [World.size_alloc] at W
      go_wp2_with fail
      refine (add_c x y x' y' _ hx hy hx' hy').mono ?_
      rintro e w4 ⟨_, ⟨s0, s1, p, HS, rfl⟩, rfl, hb⟩
      replace W := W.below hb
      clear hb lq q0 q1 q2 q3 lp p0 p1 p2 p3
      obtain ⟨rfl, hs0, hs1, es⟩ := add_fin HS (by rw [EX.out, EX'.out]; have := uL.out; have := uL'.out; omega)
      rw [EX.out, EX'.out] at es
      have hsl : v2 s0 s1 < 1000000000000000000000000000000 := by rw [es]; have := uL.out; have := uL'.out; omega
      have ES := Lib.hid es
      have HSL := Lib.hid hsl
      clear es hsl HS
      obtain ⟨lp, p0, p1, p2, p3⟩ := HB.dec (t := 25) (g := w.heap.size) (a := .bool true) (b := .int .u64 a) (c := .int .u64 b) (d := .int .i64 s) W (by simp)
      replace W := W.push #[.int .u64 s0, .int .u64 s1] 23
      go_wp2_with fail
      refine (checked_d true s0 s1 s _ hs0 hs1 HSL.out ht0 ht9).mono ?_
      rintro e w5 ⟨_, ⟨m, c, d, HD, rfl⟩, rfl, hb⟩
      replace W := W.below hb
      clear hb lp p0 p1 p2 p3
      rw [ES.out] at HD
      obtain ⟨lq, q0, q1, q2, q3⟩ := HB.dec (t := 25) (g := w.heap.size + 1 + 1) (a := .bool false) (b := .int .u64 0) (c := .int .u64 0) (d := .int .i64 0) W (by simp)
      have Bz := HB.blk (g := w.heap.size + 1 + 1) (t := 25) (cs := #[.bool false, .int .u64 0, .int .u64 0, .int .i64 0]) W (by simp)
      have fz0 := Bz.frozen 0
      have fz1 := Bz.frozen 1
      have fz2 := Bz.frozen 2
      have fz3 := Bz.frozen 3
      clear Bz
      have HB1 := Lib.hid W.1
      clear W
      have HDh := Lib.hid HD
      clear HD
      go_wp2
      exact bodyPost_ret (v := .tuple #[.agg #[.bool m, .int .u64 c, .int .u64 d, .int .i64 s], .int .i64 0]) (by simp [results, Tryz.results6, go_sem, q0, q1, q2, q3]) rfl ⟨_, ⟨_, _, _, HDh.out, rfl⟩, rfl, bel4 HB1.out hlg⟩

set_option maxRecDepth 100000 in
set_option maxHeartbeats 1600000 in
theorem add_ge (n : Bool) (n' : Bool) (hn : n' = !n) (a b s z a' b' s' z' t : Int) (w : World) (h' : DecIs n' a' b' z') (h : DecIs n a b z) (hz : Sm z) (hz' : Sm z') (h0 : 0 ≤ s) (h0' : 0 ≤ s') (h9 : s ≤ 9) (h9' : s' ≤ 9) (ht : (s < s' ∧ s' = t) ∨ (s' ≤ s ∧ s = t)) (hc : upN z' s' t ≤ upN z s t) :
    Calls Tryz.prog 6 #[.agg #[.bool n, .int .u64 a, .int .u64 b, .int .i64 s], .agg #[.bool n', .int .u64 a', .int .u64 b', .int .i64 s']] w (Ret w (IsDecE (zAt z s t + zAt z' s' t) t 0)) := by
  rw [zAt_of s t h, zAt_of s' t h']
  have esum : zOf n (upN z s t) + zOf n' (upN z' s' t) = zOf n (upN z s t - upN z' s' t) := by rw [hn]; exact zOf_ge _ _ _ hc
  rw [esum]
  have hnn : (n = false ∧ n' = true) ∨ (n = true ∧ n' = false) := by rw [hn]; cases n <;> simp
  clear esum hn
  have ht9 : t ≤ 9 := by omega
  have ht0 : 0 ≤ t := by omega
  have hst : s ≤ t := by omega
  have hst' : s' ≤ t := by omega
  have uL := Lib.hid (up_lt9 hz h0 ht9)
  have uL' := Lib.hid (up_lt9 hz' h0' ht9)
  have hH := Lib.hid h
  have h'H := Lib.hid h'
  have hzH := Lib.hid hz
  have hz'H := Lib.hid hz'
  have hcH := Lib.hid hc
  clear h h' hz hz' hc
  have hlg : w.heap.size ≤ w.heap.size + 1 + 1 := by omega
  rcases ht with ⟨hss, rfl⟩ | ⟨hss, rfl⟩
  · rcases hnn with ⟨rfl, rfl⟩ | ⟨rfl, rfl⟩
    · have W : HB w [(w.heap.size + 1 + 1, 25, #[.bool false, .int .u64 0, .int .u64 0, .int .i64 0]), (w.heap.size + 1, 25, #[.bool true, .int .u64 a', .int .u64 b', .int .i64 s']), (w.heap.size, 25, #[.bool false, .int .u64 a, .int .u64 b, .int .i64 s])] (((w.alloc (.cells #[.bool false, .int .u64 a, .int .u64 b, .int .i64 s] 25)).alloc (.cells #[.bool true, .int .u64 a', .int .u64 b', .int .i64 s'] 25)).alloc (.cells #[.bool false, .int .u64 0, .int .u64 0, .int .i64 0] 25)) := by
        have h := (((HB.start (Below.refl _ w)).push #[.bool false, .int .u64 a, .int .u64 b, .int .i64 s] 25).push #[.bool true, .int .u64 a', .int .u64 b', .int .i64 s'] 25).push #[.bool false, .int .u64 0, .int .u64 0, .int .i64 0] 25
        simpa using h
      go_enter Tryz.func6, Tryz.ntmps6
      go_wp2_with fail
      refine (right_d false a b s z _ hH.out (sm_30 hzH.out) h0 h9).mono ?_
      rintro e w1 ⟨_, rfl, rfl, hb⟩
      replace W := W.below hb
      clear hb
      obtain ⟨lq, q0, q1, q2, q3⟩ := HB.dec (t := 25) (g := w.heap.size + 1) (a := .bool true) (b := .int .u64 a') (c := .int .u64 b') (d := .int .i64 s') W (by simp)
      go_wp2_with fail
      refine (right_d true a' b' s' z' _ h'H.out (sm_30 hz'H.out) h0' h9').mono ?_
      rintro e w2 ⟨_, rfl, rfl, hb⟩
      replace W := W.below hb
      clear hb lq q0 q1 q2 q3
      obtain ⟨lp, p0, p1, p2, p3⟩ := HB.dec (t := 25) (g := w.heap.size) (a := .bool false) (b := .int .u64 a) (c := .int .u64 b) (d := .int .i64 s) W (by simp)
      obtain ⟨lq, q0, q1, q2, q3⟩ := HB.dec (t := 25) (g := w.heap.size + 1) (a := .bool true) (b := .int .u64 a') (c := .int .u64 b') (d := .int .i64 s') W (by simp)
      go_wp2_with fail
      refine (bothAt_d false a b s z true a' b' s' z' s' _ hH.out h'H.out hzH.out hz'H.out h0 h0' hst hst' ht9).mono ?_
      rintro e w3 ⟨_, ⟨x, y, x', y', ⟨hx, hy, ex⟩, ⟨hx', hy', ex'⟩, rfl⟩, rfl, hb⟩
      replace W := W.below hb
      clear hb lq q0 q1 q2 q3 lp p0 p1 p2 p3
      have EX := Lib.hid ex
      have EX' := Lib.hid ex'
      clear ex ex'
      obtain ⟨lp, p0, p1, p2, p3⟩ := HB.dec (t := 25) (g := w.heap.size) (a := .bool false) (b := .int .u64 a) (c := .int .u64 b) (d := .int .i64 s) W (by simp)
      obtain ⟨lq, q0, q1, q2, q3⟩ := HB.dec (t := 25) (g := w.heap.size + 1) (a := .bool true) (b := .int .u64 a') (c := .int .u64 b') (d := .int .i64 s') W (by simp)
      replace W := (W.push #[.int .u64 x, .int .u64 y] 23).push #[.int .u64 x', .int .u64 y'] 23
      simp only [World.size_alloc] at W
      have hM : v2 x y < 1000000000000000000000000000000 := by rw [EX.out]; have := uL.out; omega
      have hN : v2 x' y' < 1000000000000000000000000000000 := by rw [EX'.out]; have := uL'.out; omega
      have hC := hcH.out
      rw [← EX.out, ← EX'.out] at hC
      have hMh := Lib.hid hM
      have hNh := Lib.hid hN
      have hCh := Lib.hid hC
      clear hM hN hC
      go_wp2_with fail
      refine (difference_ge false x y x' y' s' _ hx hy hx' hy' hMh.out hNh.out ht0 ht9 hCh.out).mono ?_
      rintro e w5 ⟨_, ⟨m, c, d, HD, rfl⟩, rfl, hb⟩
      replace W := W.below hb
      clear hb lq q0 q1 q2 q3 lp p0 p1 p2 p3
      rw [EX.out, EX'.out] at HD
      obtain ⟨lq, q0, q1, q2, q3⟩ := HB.dec (t := 25) (g := w.heap.size + 1 + 1) (a := .bool false) (b := .int .u64 0) (c := .int .u64 0) (d := .int .i64 0) W (by simp)
      have Bz := HB.blk (g := w.heap.size + 1 + 1) (t := 25) (cs := #[.bool false, .int .u64 0, .int .u64 0, .int .i64 0]) W (by simp)
      have fz0 := Bz.frozen 0
      have fz1 := Bz.frozen 1
      have fz2 := Bz.frozen 2
      have fz3 := Bz.frozen 3
      clear Bz
      have HB1 := Lib.hid W.1
      clear W
      have HDh := Lib.hid HD
      clear HD
      go_wp2
      exact bodyPost_ret (v := .tuple #[.agg #[.bool m, .int .u64 c, .int .u64 d, .int .i64 s'], .int .i64 0]) (by simp [results, Tryz.results6, go_sem, q0, q1, q2, q3]) rfl ⟨_, ⟨_, _, _, HDh.out, rfl⟩, rfl, bel4 HB1.out hlg⟩
    · have W : HB w [(w.heap.size + 1 + 1, 25, #[.bool false, .int .u64 0, .int .u64 0, .int .i64 0]), (w.heap.size + 1, 25, #[.bool false, .int .u64 a', .int .u64 b', .int .i64 s']), (w.heap.size, 25, #[.bool true, .int .u64 a, .int .u64 b, .int .i64 s])] (((w.alloc (.cells #[.bool true, .int .u64 a, .int .u64 b, .int .i64 s] 25)).alloc (.cells #[.bool false, .int .u64 a', .int .u64 b', .int .i64 s'] 25)).alloc (.cells #[.bool false, .int .u64 0, .int .u64 0, .int .i64 0] 25)) := by
        have h := (((HB.start (Below.refl _ w)).push #[.bool true, .int .u64 a, .int .u64 b, .int .i64 s] 25).push #[.bool false, .int .u64 a', .int .u64 b', .int .i64 s'] 25).push #[.bool false, .int .u64 0, .int .u64 0, .int .i64 0] 25
        simpa using h
      go_enter Tryz.func6, Tryz.ntmps6
      go_wp2_with fail
      refine (right_d true a b s z _ hH.out (sm_30 hzH.out) h0 h9).mono ?_
      rintro e w1 ⟨_, rfl, rfl, hb⟩
      replace W := W.below hb
      clear hb
      obtain ⟨lq, q0, q1, q2, q3⟩ := HB.dec (t := 25) (g := w.heap.size + 1) (a := .bool false) (b := .int .u64 a') (c := .int .u64 b') (d := .int .i64 s') W (by simp)
      go_wp2_with fail
      refine (right_d false a' b' s' z' _ h'H.out (sm_30 hz'H.out) h0' h9').mono ?_
      rintro e w2 ⟨_, rfl, rfl, hb⟩
      replace W := W.below hb
      clear hb lq q0 q1 q2 q3
      obtain ⟨lp, p0, p1, p2, p3⟩ := HB.dec (t := 25) (g := w.heap.size) (a := .bool true) (b := .int .u64 a) (c := .int .u64 b) (d := .int .i64 s) W (by simp)
      obtain ⟨lq, q0, q1, q2, q3⟩ := HB.dec (t := 25) (g := w.heap.size + 1) (a := .bool false) (b := .int .u64 a') (c := .int .u64 b') (d := .int .i64 s') W (by simp)
      go_wp2_with fail
      refine (bothAt_d true a b s z false a' b' s' z' s' _ hH.out h'H.out hzH.out hz'H.out h0 h0' hst hst' ht9).mono ?_
      rintro e w3 ⟨_, ⟨x, y, x', y', ⟨hx, hy, ex⟩, ⟨hx', hy', ex'⟩, rfl⟩, rfl, hb⟩
      replace W := W.below hb
      clear hb lq q0 q1 q2 q3 lp p0 p1 p2 p3
      have EX := Lib.hid ex
      have EX' := Lib.hid ex'
      clear ex ex'
      obtain ⟨lp, p0, p1, p2, p3⟩ := HB.dec (t := 25) (g := w.heap.size) (a := .bool true) (b := .int .u64 a) (c := .int .u64 b) (d := .int .i64 s) W (by simp)
      obtain ⟨lq, q0, q1, q2, q3⟩ := HB.dec (t := 25) (g := w.heap.size + 1) (a := .bool false) (b := .int .u64 a') (c := .int .u64 b') (d := .int .i64 s') W (by simp)
      replace W := (W.push #[.int .u64 x, .int .u64 y] 23).push #[.int .u64 x', .int .u64 y'] 23
      simp only [World.size_alloc] at W
      have hM : v2 x y < 1000000000000000000000000000000 := by rw [EX.out]; have := uL.out; omega
      have hN : v2 x' y' < 1000000000000000000000000000000 := by rw [EX'.out]; have := uL'.out; omega
      have hC := hcH.out
      rw [← EX.out, ← EX'.out] at hC
      have hMh := Lib.hid hM
      have hNh := Lib.hid hN
      have hCh := Lib.hid hC
      clear hM hN hC
      go_wp2_with fail
      refine (difference_ge true x y x' y' s' _ hx hy hx' hy' hMh.out hNh.out ht0 ht9 hCh.out).mono ?_
      rintro e w5 ⟨_, ⟨m, c, d, HD, rfl⟩, rfl, hb⟩
      replace W := W.below hb
      clear hb lq q0 q1 q2 q3 lp p0 p1 p2 p3
      rw [EX.out, EX'.out] at HD
      obtain ⟨lq, q0, q1, q2, q3⟩ := HB.dec (t := 25) (g := w.heap.size + 1 + 1) (a := .bool false) (b := .int .u64 0) (c := .int .u64 0) (d := .int .i64 0) W (by simp)
      have Bz := HB.blk (g := w.heap.size + 1 + 1) (t := 25) (cs := #[.bool false, .int .u64 0, .int .u64 0, .int .i64 0]) W (by simp)
      have fz0 := Bz.frozen 0
      have fz1 := Bz.frozen 1
      have fz2 := Bz.frozen 2
      have fz3 := Bz.frozen 3
      clear Bz
      have HB1 := Lib.hid W.1
      clear W
      have HDh := Lib.hid HD
      clear HD
      go_wp2
      exact bodyPost_ret (v := .tuple #[.agg #[.bool m, .int .u64 c, .int .u64 d, .int .i64 s'], .int .i64 0]) (by simp [results, Tryz.results6, go_sem, q0, q1, q2, q3]) rfl ⟨_, ⟨_, _, _, HDh.out, rfl⟩, rfl, bel4 HB1.out hlg⟩
  · rcases hnn with ⟨rfl, rfl⟩ | ⟨rfl, rfl⟩
    · have W : HB w [(w.heap.size + 1 + 1, 25, #[.bool false, .int .u64 0, .int .u64 0, .int .i64 0]), (w.heap.size + 1, 25, #[.bool true, .int .u64 a', .int .u64 b', .int .i64 s']), (w.heap.size, 25, #[.bool false, .int .u64 a, .int .u64 b, .int .i64 s])] (((w.alloc (.cells #[.bool false, .int .u64 a, .int .u64 b, .int .i64 s] 25)).alloc (.cells #[.bool true, .int .u64 a', .int .u64 b', .int .i64 s'] 25)).alloc (.cells #[.bool false, .int .u64 0, .int .u64 0, .int .i64 0] 25)) := by
        have h := (((HB.start (Below.refl _ w)).push #[.bool false, .int .u64 a, .int .u64 b, .int .i64 s] 25).push #[.bool true, .int .u64 a', .int .u64 b', .int .i64 s'] 25).push #[.bool false, .int .u64 0, .int .u64 0, .int .i64 0] 25
        simpa using h
      go_enter Tryz.func6, Tryz.ntmps6
      go_wp2_with fail
      refine (right_d false a b s z _ hH.out (sm_30 hzH.out) h0 h9).mono ?_
      rintro e w1 ⟨_, rfl, rfl, hb⟩
      replace W := W.below hb
      clear hb
      obtain ⟨lq, q0, q1, q2, q3⟩ := HB.dec (t := 25) (g := w.heap.size + 1) (a := .bool true) (b := .int .u64 a') (c := .int .u64 b') (d := .int .i64 s') W (by simp)
      go_wp2_with fail
      refine (right_d true a' b' s' z' _ h'H.out (sm_30 hz'H.out) h0' h9').mono ?_
      rintro e w2 ⟨_, rfl, rfl, hb⟩
      replace W := W.below hb
      clear hb lq q0 q1 q2 q3
      obtain ⟨lp, p0, p1, p2, p3⟩ := HB.dec (t := 25) (g := w.heap.size) (a := .bool false) (b := .int .u64 a) (c := .int .u64 b) (d := .int .i64 s) W (by simp)
      obtain ⟨lq, q0, q1, q2, q3⟩ := HB.dec (t := 25) (g := w.heap.size + 1) (a := .bool true) (b := .int .u64 a') (c := .int .u64 b') (d := .int .i64 s') W (by simp)
      go_wp2_with fail
      refine (bothAt_d false a b s z true a' b' s' z' s _ hH.out h'H.out hzH.out hz'H.out h0 h0' hst hst' ht9).mono ?_
      rintro e w3 ⟨_, ⟨x, y, x', y', ⟨hx, hy, ex⟩, ⟨hx', hy', ex'⟩, rfl⟩, rfl, hb⟩
      replace W := W.below hb
      clear hb lq q0 q1 q2 q3 lp p0 p1 p2 p3
      have EX := Lib.hid ex
      have EX' := Lib.hid ex'
      clear ex ex'
      obtain ⟨lp, p0, p1, p2, p3⟩ := HB.dec (t := 25) (g := w.heap.size) (a := .bool false) (b := .int .u64 a) (c := .int .u64 b) (d := .int .i64 s) W (by simp)
      obtain ⟨lq, q0, q1, q2, q3⟩ := HB.dec (t := 25) (g := w.heap.size + 1) (a := .bool true) (b := .int .u64 a') (c := .int .u64 b') (d := .int .i64 s') W (by simp)
      replace W := (W.push #[.int .u64 x, .int .u64 y] 23).push #[.int .u64 x', .int .u64 y'] 23
      simp only [World.size_alloc] at W
      have hM : v2 x y < 1000000000000000000000000000000 := by rw [EX.out]; have := uL.out; omega
      have hN : v2 x' y' < 1000000000000000000000000000000 := by rw [EX'.out]; have := uL'.out; omega
      have hC := hcH.out
      rw [← EX.out, ← EX'.out] at hC
      have hMh := Lib.hid hM
      have hNh := Lib.hid hN
      have hCh := Lib.hid hC
      clear hM hN hC
      go_wp2_with fail
      refine (difference_ge false x y x' y' s _ hx hy hx' hy' hMh.out hNh.out ht0 ht9 hCh.out).mono ?_
      rintro e w5 ⟨_, ⟨m, c, d, HD, rfl⟩, rfl, hb⟩
      replace W := W.below hb
      clear hb lq q0 q1 q2 q3 lp p0 p1 p2 p3
      rw [EX.out, EX'.out] at HD
      obtain ⟨lq, q0, q1, q2, q3⟩ := HB.dec (t := 25) (g := w.heap.size + 1 + 1) (a := .bool false) (b := .int .u64 0) (c := .int .u64 0) (d := .int .i64 0) W (by simp)
      have Bz := HB.blk (g := w.heap.size + 1 + 1) (t := 25) (cs := #[.bool false, .int .u64 0, .int .u64 0, .int .i64 0]) W (by simp)
      have fz0 := Bz.frozen 0
      have fz1 := Bz.frozen 1
      have fz2 := Bz.frozen 2
      have fz3 := Bz.frozen 3
      clear Bz
      have HB1 := Lib.hid W.1
      clear W
      have HDh := Lib.hid HD
      clear HD
      go_wp2
      exact bodyPost_ret (v := .tuple #[.agg #[.bool m, .int .u64 c, .int .u64 d, .int .i64 s], .int .i64 0]) (by simp [results, Tryz.results6, go_sem, q0, q1, q2, q3]) rfl ⟨_, ⟨_, _, _, HDh.out, rfl⟩, rfl, bel4 HB1.out hlg⟩
    · have W : HB w [(w.heap.size + 1 + 1, 25, #[.bool false, .int .u64 0, .int .u64 0, .int .i64 0]), (w.heap.size + 1, 25, #[.bool false, .int .u64 a', .int .u64 b', .int .i64 s']), (w.heap.size, 25, #[.bool true, .int .u64 a, .int .u64 b, .int .i64 s])] (((w.alloc (.cells #[.bool true, .int .u64 a, .int .u64 b, .int .i64 s] 25)).alloc (.cells #[.bool false, .int .u64 a', .int .u64 b', .int .i64 s'] 25)).alloc (.cells #[.bool false, .int .u64 0, .int .u64 0, .int .i64 0] 25)) := by
        have h := (((HB.start (Below.refl _ w)).push #[.bool true, .int .u64 a, .int .u64 b, .int .i64 s] 25).push #[.bool false, .int .u64 a', .int .u64 b', .int .i64 s'] 25).push #[.bool false, .int .u64 0, .int .u64 0, .int .i64 0] 25
        simpa using h
      go_enter Tryz.func6, Tryz.ntmps6
      go_wp2_with fail
      refine (right_d true a b s z _ hH.out (sm_30 hzH.out) h0 h9).mono ?_
      rintro e w1 ⟨_, rfl, rfl, hb⟩
      replace W := W.below hb
      clear hb
      obtain ⟨lq, q0, q1, q2, q3⟩ := HB.dec (t := 25) (g := w.heap.size + 1) (a := .bool false) (b := .int .u64 a') (c := .int .u64 b') (d := .int .i64 s') W (by simp)
      go_wp2_with fail
      refine (right_d false a' b' s' z' _ h'H.out (sm_30 hz'H.out) h0' h9').mono ?_
      rintro e w2 ⟨_, rfl, rfl, hb⟩
      replace W := W.below hb
      clear hb lq q0 q1 q2 q3
      obtain ⟨lp, p0, p1, p2, p3⟩ := HB.dec (t := 25) (g := w.heap.size) (a := .bool true) (b := .int .u64 a) (c := .int .u64 b) (d := .int .i64 s) W (by simp)
      obtain ⟨lq, q0, q1, q2, q3⟩ := HB.dec (t := 25) (g := w.heap.size + 1) (a := .bool false) (b := .int .u64 a') (c := .int .u64 b') (d := .int .i64 s') W (by simp)
      go_wp2_with fail
      refine (bothAt_d true a b s z false a' b' s' z' s _ hH.out h'H.out hzH.out hz'H.out h0 h0' hst hst' ht9).mono ?_
      rintro e w3 ⟨_, ⟨x, y, x', y', ⟨hx, hy, ex⟩, ⟨hx', hy', ex'⟩, rfl⟩, rfl, hb⟩
      replace W := W.below hb
      clear hb lq q0 q1 q2 q3 lp p0 p1 p2 p3
      have EX := Lib.hid ex
      have EX' := Lib.hid ex'
      clear ex ex'
      obtain ⟨lp, p0, p1, p2, p3⟩ := HB.dec (t := 25) (g := w.heap.size) (a := .bool true) (b := .int .u64 a) (c := .int .u64 b) (d := .int .i64 s) W (by simp)
      obtain ⟨lq, q0, q1, q2, q3⟩ := HB.dec (t := 25) (g := w.heap.size + 1) (a := .bool false) (b := .int .u64 a') (c := .int .u64 b') (d := .int .i64 s') W (by simp)
      replace W := (W.push #[.int .u64 x, .int .u64 y] 23).push #[.int .u64 x', .int .u64 y'] 23
      simp only [World.size_alloc] at W
      have hM : v2 x y < 1000000000000000000000000000000 := by rw [EX.out]; have := uL.out; omega
      have hN : v2 x' y' < 1000000000000000000000000000000 := by rw [EX'.out]; have := uL'.out; omega
      have hC := hcH.out
      rw [← EX.out, ← EX'.out] at hC
      have hMh := Lib.hid hM
      have hNh := Lib.hid hN
      have hCh := Lib.hid hC
      clear hM hN hC
      go_wp2_with fail
      refine (difference_ge true x y x' y' s _ hx hy hx' hy' hMh.out hNh.out ht0 ht9 hCh.out).mono ?_
      rintro e w5 ⟨_, ⟨m, c, d, HD, rfl⟩, rfl, hb⟩
      replace W := W.below hb
      clear hb lq q0 q1 q2 q3 lp p0 p1 p2 p3
      rw [EX.out, EX'.out] at HD
      obtain ⟨lq, q0, q1, q2, q3⟩ := HB.dec (t := 25) (g := w.heap.size + 1 + 1) (a := .bool false) (b := .int .u64 0) (c := .int .u64 0) (d := .int .i64 0) W (by simp)
      have Bz := HB.blk (g := w.heap.size + 1 + 1) (t := 25) (cs := #[.bool false, .int .u64 0, .int .u64 0, .int .i64 0]) W (by simp)
      have fz0 := Bz.frozen 0
      have fz1 := Bz.frozen 1
      have fz2 := Bz.frozen 2
      have fz3 := Bz.frozen 3
      clear Bz
      have HB1 := Lib.hid W.1
      clear W
      have HDh := Lib.hid HD
      clear HD
      go_wp2
      exact bodyPost_ret (v := .tuple #[.agg #[.bool m, .int .u64 c, .int .u64 d, .int .i64 s], .int .i64 0]) (by simp [results, Tryz.results6, go_sem, q0, q1, q2, q3]) rfl ⟨_, ⟨_, _, _, HDh.out, rfl⟩, rfl, bel4 HB1.out hlg⟩

set_option maxRecDepth 100000 in
set_option maxHeartbeats 1600000 in
theorem add_lt (n : Bool) (n' : Bool) (hn : n' = !n) (a b s z a' b' s' z' t : Int) (w : World) (h' : DecIs n' a' b' z') (h : DecIs n a b z) (hz : Sm z) (hz' : Sm z') (h0 : 0 ≤ s) (h0' : 0 ≤ s') (h9 : s ≤ 9) (h9' : s' ≤ 9) (ht : (s < s' ∧ s' = t) ∨ (s' ≤ s ∧ s = t)) (hc : upN z s t < upN z' s' t) :
    Calls Tryz.prog 6 #[.agg #[.bool n, .int .u64 a, .int .u64 b, .int .i64 s], .agg #[.bool n', .int .u64 a', .int .u64 b', .int .i64 s']] w (Ret w (IsDecE (zAt z s t + zAt z' s' t) t 0)) := by
  rw [zAt_of s t h, zAt_of s' t h']
  have esum : zOf n (upN z s t) + zOf n' (upN z' s' t) = zOf (!n) (upN z' s' t - upN z s t) := by rw [hn]; exact zOf_lt _ _ _ hc
  rw [esum]
  have hnn : (n = false ∧ n' = true) ∨ (n = true ∧ n' = false) := by rw [hn]; cases n <;> simp
  clear esum hn
  have ht9 : t ≤ 9 := by omega
  have ht0 : 0 ≤ t := by omega
  have hst : s ≤ t := by omega
  have hst' : s' ≤ t := by omega
  have uL := Lib.hid (up_lt9 hz h0 ht9)
  have uL' := Lib.hid (up_lt9 hz' h0' ht9)
  have hH := Lib.hid h
  have h'H := Lib.hid h'
  have hzH := Lib.hid hz
  have hz'H := Lib.hid hz'
  have hcH := Lib.hid hc
  clear h h' hz hz' hc
  have hlg : w.heap.size ≤ w.heap.size + 1 + 1 := by omega
  rcases ht with ⟨hss, rfl⟩ | ⟨hss, rfl⟩
  · rcases hnn with ⟨rfl, rfl⟩ | ⟨rfl, rfl⟩
    · have W : HB w [(w.heap.size + 1 + 1, 25, #[.bool false, .int .u64 0, .int .u64 0, .int .i64 0]), (w.heap.size + 1, 25, #[.bool true, .int .u64 a', .int .u64 b', .int .i64 s']), (w.heap.size, 25, #[.bool false, .int .u64 a, .int .u64 b, .int .i64 s])] (((w.alloc (.cells #[.bool false, .int .u64 a, .int .u64 b, .int .i64 s] 25)).alloc (.cells #[.bool true, .int .u64 a', .int .u64 b', .int .i64 s'] 25)).alloc (.cells #[.bool false, .int .u64 0, .int .u64 0, .int .i64 0] 25)) := by
        have h := (((HB.start (Below.refl _ w)).push #[.bool false, .int .u64 a, .int .u64 b, .int .i64 s] 25).push #[.bool true, .int .u64 a', .int .u64 b', .int .i64 s'] 25).push #[.bool false, .int .u64 0, .int .u64 0, .int .i64 0] 25
        simpa using h
      go_enter Tryz.func6, Tryz.ntmps6
      go_wp2_with fail
      refine (right_d false a b s z _ hH.out (sm_30 hzH.out) h0 h9).mono ?_
      rintro e w1 ⟨_, rfl, rfl, hb⟩
      replace W := W.below hb
      clear hb
      obtain ⟨lq, q0, q1, q2, q3⟩ := HB.dec (t := 25) (g := w.heap.size + 1) (a := .bool true) (b := .int .u64 a') (c := .int .u64 b') (d := .int .i64 s') W (by simp)
      go_wp2_with fail
      refine (right_d true a' b' s' z' _ h'H.out (sm_30 hz'H.out) h0' h9').mono ?_
      rintro e w2 ⟨_, rfl, rfl, hb⟩
      replace W := W.below hb
      clear hb lq q0 q1 q2 q3
      obtain ⟨lp, p0, p1, p2, p3⟩ := HB.dec (t := 25) (g := w.heap.size) (a := .bool false) (b := .int .u64 a) (c := .int .u64 b) (d := .int .i64 s) W (by simp)
      obtain ⟨lq, q0, q1, q2, q3⟩ := HB.dec (t := 25) (g := w.heap.size + 1) (a := .bool true) (b := .int .u64 a') (c := .int .u64 b') (d := .int .i64 s') W (by simp)
      go_wp2_with fail
      refine (bothAt_d false a b s z true a' b' s' z' s' _ hH.out h'H.out hzH.out hz'H.out h0 h0' hst hst' ht9).mono ?_
      rintro e w3 ⟨_, ⟨x, y, x', y', ⟨hx, hy, ex⟩, ⟨hx', hy', ex'⟩, rfl⟩, rfl, hb⟩
      replace W := W.below hb
      clear hb lq q0 q1 q2 q3 lp p0 p1 p2 p3
      have EX := Lib.hid ex
      have EX' := Lib.hid ex'
      clear ex ex'
      obtain ⟨lp, p0, p1, p2, p3⟩ := HB.dec (t := 25) (g := w.heap.size) (a := .bool false) (b := .int .u64 a) (c := .int .u64 b) (d := .int .i64 s) W (by simp)
      obtain ⟨lq, q0, q1, q2, q3⟩ := HB.dec (t := 25) (g := w.heap.size + 1) (a := .bool true) (b := .int .u64 a') (c := .int .u64 b') (d := .int .i64 s') W (by simp)
      replace W := (W.push #[.int .u64 x, .int .u64 y] 23).push #[.int .u64 x', .int .u64 y'] 23
      simp only [World.size_alloc] at W
      have hM : v2 x y < 1000000000000000000000000000000 := by rw [EX.out]; have := uL.out; omega
      have hN : v2 x' y' < 1000000000000000000000000000000 := by rw [EX'.out]; have := uL'.out; omega
      have hC := hcH.out
      rw [← EX.out, ← EX'.out] at hC
      have hMh := Lib.hid hM
      have hNh := Lib.hid hN
      have hCh := Lib.hid hC
      clear hM hN hC
      go_wp2_with fail
      refine (difference_lt false x y x' y' s' _ hx hy hx' hy' hMh.out hNh.out ht0 ht9 hCh.out).mono ?_
      rintro e w5 ⟨_, ⟨m, c, d, HD, rfl⟩, rfl, hb⟩
      replace W := W.below hb
      clear hb lq q0 q1 q2 q3 lp p0 p1 p2 p3
      rw [EX.out, EX'.out] at HD
      obtain ⟨lq, q0, q1, q2, q3⟩ := HB.dec (t := 25) (g := w.heap.size + 1 + 1) (a := .bool false) (b := .int .u64 0) (c := .int .u64 0) (d := .int .i64 0) W (by simp)
      have Bz := HB.blk (g := w.heap.size + 1 + 1) (t := 25) (cs := #[.bool false, .int .u64 0, .int .u64 0, .int .i64 0]) W (by simp)
      have fz0 := Bz.frozen 0
      have fz1 := Bz.frozen 1
      have fz2 := Bz.frozen 2
      have fz3 := Bz.frozen 3
      clear Bz
      have HB1 := Lib.hid W.1
      clear W
      have HDh := Lib.hid HD
      clear HD
      go_wp2
      exact bodyPost_ret (v := .tuple #[.agg #[.bool m, .int .u64 c, .int .u64 d, .int .i64 s'], .int .i64 0]) (by simp [results, Tryz.results6, go_sem, q0, q1, q2, q3]) rfl ⟨_, ⟨_, _, _, HDh.out, rfl⟩, rfl, bel4 HB1.out hlg⟩
    · have W : HB w [(w.heap.size + 1 + 1, 25, #[.bool false, .int .u64 0, .int .u64 0, .int .i64 0]), (w.heap.size + 1, 25, #[.bool false, .int .u64 a', .int .u64 b', .int .i64 s']), (w.heap.size, 25, #[.bool true, .int .u64 a, .int .u64 b, .int .i64 s])] (((w.alloc (.cells #[.bool true, .int .u64 a, .int .u64 b, .int .i64 s] 25)).alloc (.cells #[.bool false, .int .u64 a', .int .u64 b', .int .i64 s'] 25)).alloc (.cells #[.bool false, .int .u64 0, .int .u64 0, .int .i64 0] 25)) := by
        have h := (((HB.start (Below.refl _ w)).push #[.bool true, .int .u64 a, .int .u64 b, .int .i64 s] 25).push #[.bool false, .int .u64 a', .int .u64 b', .int .i64 s'] 25).push #[.bool false, .int .u64 0, .int .u64 0, .int .i64 0] 25
        simpa using h
      go_enter Tryz.func6, Tryz.ntmps6
      go_wp2_with fail
      refine (right_d true a b s z _ hH.out (sm_30 hzH.out) h0 h9).mono ?_
      rintro e w1 ⟨_, rfl, rfl, hb⟩
      replace W := W.below hb
      clear hb
      obtain ⟨lq, q0, q1, q2, q3⟩ := HB.dec (t := 25) (g := w.heap.size + 1) (a := .bool false) (b := .int .u64 a') (c := .int .u64 b') (d := .int .i64 s') W (by simp)
      go_wp2_with fail
      refine (right_d false a' b' s' z' _ h'H.out (sm_30 hz'H.out) h0' h9').mono ?_
      rintro e w2 ⟨_, rfl, rfl, hb⟩
      replace W := W.below hb
      clear hb lq q0 q1 q2 q3
      obtain ⟨lp, p0, p1, p2, p3⟩ := HB.dec (t := 25) (g := w.heap.size) (a := .bool true) (b := .int .u64 a) (c := .int .u64 b) (d := .int .i64 s) W (by simp)
      obtain ⟨lq, q0, q1, q2, q3⟩ := HB.dec (t := 25) (g := w.heap.size + 1) (a := .bool false) (b := .int .u64 a') (c := .int .u64 b') (d := .int .i64 s') W (by simp)
      go_wp2_with fail
      refine (bothAt_d true a b s z false a' b' s' z' s' _ hH.out h'H.out hzH.out hz'H.out h0 h0' hst hst' ht9).mono ?_
      rintro e w3 ⟨_, ⟨x, y, x', y', ⟨hx, hy, ex⟩, ⟨hx', hy', ex'⟩, rfl⟩, rfl, hb⟩
      replace W := W.below hb
      clear hb lq q0 q1 q2 q3 lp p0 p1 p2 p3
      have EX := Lib.hid ex
      have EX' := Lib.hid ex'
      clear ex ex'
      obtain ⟨lp, p0, p1, p2, p3⟩ := HB.dec (t := 25) (g := w.heap.size) (a := .bool true) (b := .int .u64 a) (c := .int .u64 b) (d := .int .i64 s) W (by simp)
      obtain ⟨lq, q0, q1, q2, q3⟩ := HB.dec (t := 25) (g := w.heap.size + 1) (a := .bool false) (b := .int .u64 a') (c := .int .u64 b') (d := .int .i64 s') W (by simp)
      replace W := (W.push #[.int .u64 x, .int .u64 y] 23).push #[.int .u64 x', .int .u64 y'] 23
      simp only [World.size_alloc] at W
      have hM : v2 x y < 1000000000000000000000000000000 := by rw [EX.out]; have := uL.out; omega
      have hN : v2 x' y' < 1000000000000000000000000000000 := by rw [EX'.out]; have := uL'.out; omega
      have hC := hcH.out
      rw [← EX.out, ← EX'.out] at hC
      have hMh := Lib.hid hM
      have hNh := Lib.hid hN
      have hCh := Lib.hid hC
      clear hM hN hC
      go_wp2_with fail
      refine (difference_lt true x y x' y' s' _ hx hy hx' hy' hMh.out hNh.out ht0 ht9 hCh.out).mono ?_
      rintro e w5 ⟨_, ⟨m, c, d, HD, rfl⟩, rfl, hb⟩
      replace W := W.below hb
      clear hb lq q0 q1 q2 q3 lp p0 p1 p2 p3
      rw [EX.out, EX'.out] at HD
      obtain ⟨lq, q0, q1, q2, q3⟩ := HB.dec (t := 25) (g := w.heap.size + 1 + 1) (a := .bool false) (b := .int .u64 0) (c := .int .u64 0) (d := .int .i64 0) W (by simp)
      have Bz := HB.blk (g := w.heap.size + 1 + 1) (t := 25) (cs := #[.bool false, .int .u64 0, .int .u64 0, .int .i64 0]) W (by simp)
      have fz0 := Bz.frozen 0
      have fz1 := Bz.frozen 1
      have fz2 := Bz.frozen 2
      have fz3 := Bz.frozen 3
      clear Bz
      have HB1 := Lib.hid W.1
      clear W
      have HDh := Lib.hid HD
      clear HD
      go_wp2
      exact bodyPost_ret (v := .tuple #[.agg #[.bool m, .int .u64 c, .int .u64 d, .int .i64 s'], .int .i64 0]) (by simp [results, Tryz.results6, go_sem, q0, q1, q2, q3]) rfl ⟨_, ⟨_, _, _, HDh.out, rfl⟩, rfl, bel4 HB1.out hlg⟩
  · rcases hnn with ⟨rfl, rfl⟩ | ⟨rfl, rfl⟩
    · have W : HB w [(w.heap.size + 1 + 1, 25, #[.bool false, .int .u64 0, .int .u64 0, .int .i64 0]), (w.heap.size + 1, 25, #[.bool true, .int .u64 a', .int .u64 b', .int .i64 s']), (w.heap.size, 25, #[.bool false, .int .u64 a, .int .u64 b, .int .i64 s])] (((w.alloc (.cells #[.bool false, .int .u64 a, .int .u64 b, .int .i64 s] 25)).alloc (.cells #[.bool true, .int .u64 a', .int .u64 b', .int .i64 s'] 25)).alloc (.cells #[.bool false, .int .u64 0, .int .u64 0, .int .i64 0] 25)) := by
        have h := (((HB.start (Below.refl _ w)).push #[.bool false, .int .u64 a, .int .u64 b, .int .i64 s] 25).push #[.bool true, .int .u64 a', .int .u64 b', .int .i64 s'] 25).push #[.bool false, .int .u64 0, .int .u64 0, .int .i64 0] 25
        simpa using h
      go_enter Tryz.func6, Tryz.ntmps6
      go_wp2_with fail
      refine (right_d false a b s z _ hH.out (sm_30 hzH.out) h0 h9).mono ?_
      rintro e w1 ⟨_, rfl, rfl, hb⟩
      replace W := W.below hb
      clear hb
      obtain ⟨lq, q0, q1, q2, q3⟩ := HB.dec (t := 25) (g := w.heap.size + 1) (a := .bool true) (b := .int .u64 a') (c := .int .u64 b') (d := .int .i64 s') W (by simp)
      go_wp2_with fail
      refine (right_d true a' b' s' z' _ h'H.out (sm_30 hz'H.out) h0' h9').mono ?_
      rintro e w2 ⟨_, rfl, rfl, hb⟩
      replace W := W.below hb
      clear hb lq q0 q1 q2 q3
      obtain ⟨lp, p0, p1, p2, p3⟩ := HB.dec (t := 25) (g := w.heap.size) (a := .bool false) (b := .int .u64 a) (c := .int .u64 b) (d := .int .i64 s) W (by simp)
      obtain ⟨lq, q0, q1, q2, q3⟩ := HB.dec (t := 25) (g := w.heap.size + 1) (a := .bool true) (b := .int .u64 a') (c := .int .u64 b') (d := .int .i64 s') W (by simp)
      go_wp2_with fail
      refine (bothAt_d false a b s z true a' b' s' z' s _ hH.out h'H.out hzH.out hz'H.out h0 h0' hst hst' ht9).mono ?_
      rintro e w3 ⟨_, ⟨x, y, x', y', ⟨hx, hy, ex⟩, ⟨hx', hy', ex'⟩, rfl⟩, rfl, hb⟩
      replace W := W.below hb
      clear hb lq q0 q1 q2 q3 lp p0 p1 p2 p3
      have EX := Lib.hid ex
      have EX' := Lib.hid ex'
      clear ex ex'
      obtain ⟨lp, p0, p1, p2, p3⟩ := HB.dec (t := 25) (g := w.heap.size) (a := .bool false) (b := .int .u64 a) (c := .int .u64 b) (d := .int .i64 s) W (by simp)
      obtain ⟨lq, q0, q1, q2, q3⟩ := HB.dec (t := 25) (g := w.heap.size + 1) (a := .bool true) (b := .int .u64 a') (c := .int .u64 b') (d := .int .i64 s') W (by simp)
      replace W := (W.push #[.int .u64 x, .int .u64 y] 23).push #[.int .u64 x', .int .u64 y'] 23
      simp only [World.size_alloc] at W
      have hM : v2 x y < 1000000000000000000000000000000 := by rw [EX.out]; have := uL.out; omega
      have hN : v2 x' y' < 1000000000000000000000000000000 := by rw [EX'.out]; have := uL'.out; omega
      have hC := hcH.out
      rw [← EX.out, ← EX'.out] at hC
      have hMh := Lib.hid hM
      have hNh := Lib.hid hN
      have hCh := Lib.hid hC
      clear hM hN hC
      go_wp2_with fail
      refine (difference_lt false x y x' y' s _ hx hy hx' hy' hMh.out hNh.out ht0 ht9 hCh.out).mono ?_
      rintro e w5 ⟨_, ⟨m, c, d, HD, rfl⟩, rfl, hb⟩
      replace W := W.below hb
      clear hb lq q0 q1 q2 q3 lp p0 p1 p2 p3
      rw [EX.out, EX'.out] at HD
      obtain ⟨lq, q0, q1, q2, q3⟩ := HB.dec (t := 25) (g := w.heap.size + 1 + 1) (a := .bool false) (b := .int .u64 0) (c := .int .u64 0) (d := .int .i64 0) W (by simp)
      have Bz := HB.blk (g := w.heap.size + 1 + 1) (t := 25) (cs := #[.bool false, .int .u64 0, .int .u64 0, .int .i64 0]) W (by simp)
      have fz0 := Bz.frozen 0
      have fz1 := Bz.frozen 1
      have fz2 := Bz.frozen 2
      have fz3 := Bz.frozen 3
      clear Bz
      have HB1 := Lib.hid W.1
      clear W
      have HDh := Lib.hid HD
      clear HD
      go_wp2
      exact bodyPost_ret (v := .tuple #[.agg #[.bool m, .int .u64 c, .int .u64 d, .int .i64 s], .int .i64 0]) (by simp [results, Tryz.results6, go_sem, q0, q1, q2, q3]) rfl ⟨_, ⟨_, _, _, HDh.out, rfl⟩, rfl, bel4 HB1.out hlg⟩
    · have W : HB w [(w.heap.size + 1 + 1, 25, #[.bool false, .int .u64 0, .int .u64 0, .int .i64 0]), (w.heap.size + 1, 25, #[.bool false, .int .u64 a', .int .u64 b', .int .i64 s']), (w.heap.size, 25, #[.bool true, .int .u64 a, .int .u64 b, .int .i64 s])] (((w.alloc (.cells #[.bool true, .int .u64 a, .int .u64 b, .int .i64 s] 25)).alloc (.cells #[.bool false, .int .u64 a', .int .u64 b', .int .i64 s'] 25)).alloc (.cells #[.bool false, .int .u64 0, .int .u64 0, .int .i64 0] 25)) := by
        have h := (((HB.start (Below.refl _ w)).push #[.bool true, .int .u64 a, .int .u64 b, .int .i64 s] 25).push #[.bool false, .int .u64 a', .int .u64 b', .int .i64 s'] 25).push #[.bool false, .int .u64 0, .int .u64 0, .int .i64 0] 25
        simpa using h
      go_enter Tryz.func6, Tryz.ntmps6
      go_wp2_with fail
      refine (right_d true a b s z _ hH.out (sm_30 hzH.out) h0 h9).mono ?_
      rintro e w1 ⟨_, rfl, rfl, hb⟩
      replace W := W.below hb
      clear hb
      obtain ⟨lq, q0, q1, q2, q3⟩ := HB.dec (t := 25) (g := w.heap.size + 1) (a := .bool false) (b := .int .u64 a') (c := .int .u64 b') (d := .int .i64 s') W (by simp)
      go_wp2_with fail
      refine (right_d false a' b' s' z' _ h'H.out (sm_30 hz'H.out) h0' h9').mono ?_
      rintro e w2 ⟨_, rfl, rfl, hb⟩
      replace W := W.below hb
      clear hb lq q0 q1 q2 q3
      obtain ⟨lp, p0, p1, p2, p3⟩ := HB.dec (t := 25) (g := w.heap.size) (a := .bool true) (b := .int .u64 a) (c := .int .u64 b) (d := .int .i64 s) W (by simp)
      obtain ⟨lq, q0, q1, q2, q3⟩ := HB.dec (t := 25) (g := w.heap.size + 1) (a := .bool false) (b := .int .u64 a') (c := .int .u64 b') (d := .int .i64 s') W (by simp)
      go_wp2_with fail
      refine (bothAt_d true a b s z false a' b' s' z' s _ hH.out h'H.out hzH.out hz'H.out h0 h0' hst hst' ht9).mono ?_
      rintro e w3 ⟨_, ⟨x, y, x', y', ⟨hx, hy, ex⟩, ⟨hx', hy', ex'⟩, rfl⟩, rfl, hb⟩
      replace W := W.below hb
      clear hb lq q0 q1 q2 q3 lp p0 p1 p2 p3
      have EX := Lib.hid ex
      have EX' := Lib.hid ex'
      clear ex ex'
      obtain ⟨lp, p0, p1, p2, p3⟩ := HB.dec (t := 25) (g := w.heap.size) (a := .bool true) (b := .int .u64 a) (c := .int .u64 b) (d := .int .i64 s) W (by simp)
      obtain ⟨lq, q0, q1, q2, q3⟩ := HB.dec (t := 25) (g := w.heap.size + 1) (a := .bool false) (b := .int .u64 a') (c := .int .u64 b') (d := .int .i64 s') W (by simp)
      replace W := (W.push #[.int .u64 x, .int .u64 y] 23).push #[.int .u64 x', .int .u64 y'] 23
      simp only [World.size_alloc] at W
      have hM : v2 x y < 1000000000000000000000000000000 := by rw [EX.out]; have := uL.out; omega
      have hN : v2 x' y' < 1000000000000000000000000000000 := by rw [EX'.out]; have := uL'.out; omega
      have hC := hcH.out
      rw [← EX.out, ← EX'.out] at hC
      have hMh := Lib.hid hM
      have hNh := Lib.hid hN
      have hCh := Lib.hid hC
      clear hM hN hC
      go_wp2_with fail
      refine (difference_lt true x y x' y' s _ hx hy hx' hy' hMh.out hNh.out ht0 ht9 hCh.out).mono ?_
      rintro e w5 ⟨_, ⟨m, c, d, HD, rfl⟩, rfl, hb⟩
      replace W := W.below hb
      clear hb lq q0 q1 q2 q3 lp p0 p1 p2 p3
      rw [EX.out, EX'.out] at HD
      obtain ⟨lq, q0, q1, q2, q3⟩ := HB.dec (t := 25) (g := w.heap.size + 1 + 1) (a := .bool false) (b := .int .u64 0) (c := .int .u64 0) (d := .int .i64 0) W (by simp)
      have Bz := HB.blk (g := w.heap.size + 1 + 1) (t := 25) (cs := #[.bool false, .int .u64 0, .int .u64 0, .int .i64 0]) W (by simp)
      have fz0 := Bz.frozen 0
      have fz1 := Bz.frozen 1
      have fz2 := Bz.frozen 2
      have fz3 := Bz.frozen 3
      clear Bz
      have HB1 := Lib.hid W.1
      clear W
      have HDh := Lib.hid HD
      clear HD
      go_wp2
      exact bodyPost_ret (v := .tuple #[.agg #[.bool m, .int .u64 c, .int .u64 d, .int .i64 s], .int .i64 0]) (by simp [results, Tryz.results6, go_sem, q0, q1, q2, q3]) rfl ⟨_, ⟨_, _, _, HDh.out, rfl⟩, rfl, bel4 HB1.out hlg⟩

theorem add_d (n : Bool) (a b s z : Int) (n' : Bool) (a' b' s' z' t : Int) (w : World) (h' : DecIs n' a' b' z') (h : DecIs n a b z) (hz : Sm z) (hz' : Sm z') (h0 : 0 ≤ s) (h0' : 0 ≤ s') (h9 : s ≤ 9) (h9' : s' ≤ 9) (ht : (s < s' ∧ s' = t) ∨ (s' ≤ s ∧ s = t)) :
    Calls Tryz.prog 6 #[.agg #[.bool n, .int .u64 a, .int .u64 b, .int .i64 s], .agg #[.bool n', .int .u64 a', .int .u64 b', .int .i64 s']] w (Ret w (IsDecE (zAt z s t + zAt z' s' t) t 0)) := by
  by_cases hn : n' = n
  · subst hn
    exact add_same n' a b s z a' b' s' z' t w h' h hz hz' h0 h0' h9 h9' ht
  · obtain rfl : n' = !n := by cases n <;> cases n' <;> simp_all
    by_cases hc : upN z' s' t ≤ upN z s t
    · exact add_ge n _ rfl a b s z a' b' s' z' t w h' h hz hz' h0 h0' h9 h9' ht hc
    · exact add_lt n _ rfl a b s z a' b' s' z' t w h' h hz hz' h0 h0' h9 h9' ht (by omega)

end Go.Proofs.YtlhceelkefgjhaaGreatDoor

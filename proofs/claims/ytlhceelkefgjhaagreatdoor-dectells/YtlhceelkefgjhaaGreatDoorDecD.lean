/- Package dec: contracts at small decimals: difference, Mul, Add. -/
import Derived.Test.YtlhceelkefgjhaaGreatDoorDecC
namespace Go.Proofs.YtlhceelkefgjhaaGreatDoor
open Go.RowKit

theorem sub_fin {x y x' y' s0 s1 : Int} {p : Bool} (h : SubR x y x' y' s0 s1 p) (hle : v2 x' y' ≤ v2 x y) : p = true ∧ U64 s0 ∧ U64 s1 ∧ v2 s0 s1 = v2 x y - v2 x' y' := by
  obtain ⟨a, b, ⟨_, hp, e⟩ | ⟨hl, _⟩⟩ := h
  · exact ⟨hp, a, b, by omega⟩
  · omega
theorem sub_no {x y x' y' s0 s1 : Int} {p : Bool} (h : SubR x y x' y' s0 s1 p) (hlt : v2 x y < v2 x' y') : p = false := by
  obtain ⟨a, b, ⟨hl, _⟩ | ⟨_, hp, _⟩⟩ := h
  · omega
  · exact hp
theorem isDecE_of {z z' s e : Int} {w : World} {f : FuncId} {args : Array Value} (h : Calls Tryz.prog f args w (Ret w (IsDecE z s e))) (hz : z = z') : Calls Tryz.prog f args w (Ret w (IsDecE z' s e)) := by
  subst hz
  exact h

set_option maxRecDepth 100000 in
set_option maxHeartbeats 1600000 in
theorem difference_ge (n : Bool) (x y x' y' t : Int) (w : World) (hx : U64 x) (hy : U64 y) (hx' : U64 x') (hy' : U64 y') (hM : v2 x y < 1000000000000000000000000000000) (hN : v2 x' y' < 1000000000000000000000000000000) (h0 : 0 ≤ t) (h9 : t ≤ 9) (hle : v2 x' y' ≤ v2 x y) :
    Calls Tryz.prog 31 #[.bool n, .agg #[.int .u64 x, .int .u64 y], .agg #[.int .u64 x', .int .u64 y'], .int .i64 t] w (Ret w (IsDecE (zOf n (v2 x y - v2 x' y')) t 0)) := by
  have W : HB w [(w.heap.size + 1 + 1, 25, #[.bool false, .int .u64 0, .int .u64 0, .int .i64 0]), (w.heap.size + 1, 23, #[.int .u64 x', .int .u64 y']), (w.heap.size, 23, #[.int .u64 x, .int .u64 y])] (((w.alloc (.cells #[.int .u64 x, .int .u64 y] 23)).alloc (.cells #[.int .u64 x', .int .u64 y'] 23)).alloc (.cells #[.bool false, .int .u64 0, .int .u64 0, .int .i64 0] 25)) := by
    have h := (((HB.start (Below.refl _ w)).push #[.int .u64 x, .int .u64 y] 23).push #[.int .u64 x', .int .u64 y'] 23).push #[.bool false, .int .u64 0, .int .u64 0, .int .i64 0] 25
    simpa using h
  have hlg : w.heap.size ≤ w.heap.size + 1 + 1 := by omega
  have HC := Lib.hid hle
  have HM := Lib.hid hM
  have HN := Lib.hid hN
  clear hM hN hle
  go_enter Tryz.func31, Tryz.ntmps31
  go_wp2_with fail
  refine (sub_c x y x' y' _ hx hy hx' hy').mono ?_
  rintro e w1 ⟨_, ⟨s0, s1, p, HS, rfl⟩, rfl, hb⟩
  replace W := W.below hb
  clear hb
  obtain ⟨rfl, hs0, hs1, es⟩ := sub_fin HS HC.out
  have hsl : v2 s0 s1 < 1000000000000000000000000000000 := by have := HM.out; omega
  have ES := Lib.hid es
  have HSL := Lib.hid hsl
  clear es hsl HS
  replace W := W.push #[.int .u64 s0, .int .u64 s1] 23
  go_wp2_with fail
  refine (checked_d n s0 s1 t _ hs0 hs1 HSL.out h0 h9).mono ?_
  rintro e w2 ⟨_, ⟨m, a, b, HD, rfl⟩, rfl, hb⟩
  replace W := W.below hb
  clear hb
  rw [ES.out] at HD
  obtain ⟨lq, q0, q1, q2, q3⟩ := HB.dec (t := 25) (g := w.heap.size + 1 + 1) (a := .bool false) (b := .int .u64 0) (c := .int .u64 0) (d := .int .i64 0) W (by simp)
  have Bz := HB.blk (g := w.heap.size + 1 + 1) (t := 25) (cs := #[.bool false, .int .u64 0, .int .u64 0, .int .i64 0]) W (by simp)
  have fz0 := Bz.frozen 0
  have fz1 := Bz.frozen 1
  have fz2 := Bz.frozen 2
  have fz3 := Bz.frozen 3
  clear Bz
  have HB1 := Lib.hid W.1
  clear W
  have HDh := Lib.hid HD
  clear HD
  go_wp2
  exact bodyPost_ret (v := .tuple #[.agg #[.bool m, .int .u64 a, .int .u64 b, .int .i64 t], .int .i64 0]) (by simp [results, Tryz.results31, go_sem, q0, q1, q2, q3]) rfl ⟨_, ⟨_, _, _, HDh.out, rfl⟩, rfl, bel4 HB1.out hlg⟩

set_option maxRecDepth 100000 in
set_option maxHeartbeats 1600000 in
theorem difference_lt (n : Bool) (x y x' y' t : Int) (w : World) (hx : U64 x) (hy : U64 y) (hx' : U64 x') (hy' : U64 y') (hM : v2 x y < 1000000000000000000000000000000) (hN : v2 x' y' < 1000000000000000000000000000000) (h0 : 0 ≤ t) (h9 : t ≤ 9) (hlt : v2 x y < v2 x' y') :
    Calls Tryz.prog 31 #[.bool n, .agg #[.int .u64 x, .int .u64 y], .agg #[.int .u64 x', .int .u64 y'], .int .i64 t] w (Ret w (IsDecE (zOf (!n) (v2 x' y' - v2 x y)) t 0)) := by
  have W : HB w [(w.heap.size + 1 + 1, 25, #[.bool false, .int .u64 0, .int .u64 0, .int .i64 0]), (w.heap.size + 1, 23, #[.int .u64 x', .int .u64 y']), (w.heap.size, 23, #[.int .u64 x, .int .u64 y])] (((w.alloc (.cells #[.int .u64 x, .int .u64 y] 23)).alloc (.cells #[.int .u64 x', .int .u64 y'] 23)).alloc (.cells #[.bool false, .int .u64 0, .int .u64 0, .int .i64 0] 25)) := by
    have h := (((HB.start (Below.refl _ w)).push #[.int .u64 x, .int .u64 y] 23).push #[.int .u64 x', .int .u64 y'] 23).push #[.bool false, .int .u64 0, .int .u64 0, .int .i64 0] 25
    simpa using h
  have hlg : w.heap.size ≤ w.heap.size + 1 + 1 := by omega
  have HC := Lib.hid hlt
  have HM := Lib.hid hM
  have HN := Lib.hid hN
  clear hM hN hlt
  go_enter Tryz.func31, Tryz.ntmps31
  go_wp2_with fail
  refine (sub_c x y x' y' _ hx hy hx' hy').mono ?_
  rintro e w1 ⟨_, ⟨s0, s1, p, HS, rfl⟩, rfl, hb⟩
  replace W := W.below hb
  clear hb
  obtain rfl := sub_no HS HC.out
  have HW1 := Lib.hid (show w.heap.size + 1 + 1 < w1.heap.size ∧ w.heap.size ≤ w1.heap.size from ⟨(HB.dec (t := 25) (g := w.heap.size + 1 + 1) (a := .bool false) (b := .int .u64 0) (c := .int .u64 0) (d := .int .i64 0) W (by simp)).1, W.1.size⟩)
  clear HS
  obtain ⟨lq, q0, q1⟩ := HB.two (t := 23) (g := w.heap.size) (a := .int .u64 x) (b := .int .u64 y) W (by simp)
  obtain ⟨lp, p0, p1⟩ := HB.two (t := 23) (g := w.heap.size + 1) (a := .int .u64 x') (b := .int .u64 y') W (by simp)
  replace W := W.push #[.int .u64 s0, .int .u64 s1] 23
  go_wp2_with fail
  refine (sub_c x' y' x y _ hx' hy' hx hy).mono ?_
  rintro e w2 ⟨_, ⟨u0, u1, p, HS, rfl⟩, rfl, hb⟩
  replace W := W.below hb
  clear hb lq q0 q1 lp p0 p1
  obtain ⟨rfl, hs0, hs1, es⟩ := sub_fin HS (Nat.le_of_lt HC.out)
  have hsl : v2 u0 u1 < 1000000000000000000000000000000 := by have := HN.out; omega
  have ES := Lib.hid es
  have HSL := Lib.hid hsl
  clear es hsl HS
  obtain ⟨lq, q0, q1⟩ := HB.two (t := 23) (g := w1.heap.size) (a := .int .u64 s0) (b := .int .u64 s1) W (by simp)
  have Bz := HB.blk (g := w1.heap.size) (t := 23) (cs := #[.int .u64 s0, .int .u64 s1]) W (by simp)
  have fz0 := Bz.frozen 0
  have fz1 := Bz.frozen 1
  clear Bz
  have hw1 : w.heap.size + 1 + 1 < w1.heap.size ∧ w.heap.size ≤ w1.heap.size := HW1.out
  replace W := HB.put2 (g := w1.heap.size) (t := 23) (a := .int .u64 s0) (b := .int .u64 s1) (a' := .int .u64 u0) (b' := .int .u64 u1) (bs' := [(w.heap.size + 1 + 1, 25, #[.bool false, .int .u64 0, .int .u64 0, .int .i64 0])]) W (by simp) hw1.2 (by simp; omega)
  go_wp2_with fail
  refine (checked_d (!n) u0 u1 t _ hs0 hs1 HSL.out h0 h9).mono ?_
  rintro e w3 ⟨_, ⟨m, a, b, HD, rfl⟩, rfl, hb⟩
  replace W := W.below hb
  clear hb lq q0 q1 fz0 fz1
  rw [ES.out] at HD
  obtain ⟨lq, q0, q1, q2, q3⟩ := HB.dec (t := 25) (g := w.heap.size + 1 + 1) (a := .bool false) (b := .int .u64 0) (c := .int .u64 0) (d := .int .i64 0) W (by simp)
  have Bz := HB.blk (g := w.heap.size + 1 + 1) (t := 25) (cs := #[.bool false, .int .u64 0, .int .u64 0, .int .i64 0]) W (by simp)
  have fz0 := Bz.frozen 0
  have fz1 := Bz.frozen 1
  have fz2 := Bz.frozen 2
  have fz3 := Bz.frozen 3
  clear Bz
  have HB1 := Lib.hid W.1
  clear W
  have HDh := Lib.hid HD
  clear HD
  go_wp2
  exact bodyPost_ret (v := .tuple #[.agg #[.bool m, .int .u64 a, .int .u64 b, .int .i64 t], .int .i64 0]) (by simp [results, Tryz.results31, go_sem, q0, q1, q2, q3]) rfl ⟨_, ⟨_, _, _, HDh.out, rfl⟩, rfl, bel4 HB1.out hlg⟩

theorem mul_sign {n : Bool} {a b z : Int} {n' : Bool} {a' b' z' : Int} (h : DecIs n a b z) (h' : DecIs n' a' b' z') : zOf (n != n') (z.natAbs * z'.natAbs) = z * z' := by
  obtain ⟨rfl, _⟩ := h
  obtain ⟨rfl, _⟩ := h'
  have e : ((z.natAbs * z'.natAbs : Nat) : Int) = (z.natAbs : Int) * (z'.natAbs : Int) := Int.natCast_mul _ _
  unfold zOf
  rw [e]
  by_cases h1 : z < 0
  · have e1 : (z.natAbs : Int) = -z := by omega
    by_cases h2 : z' < 0
    · have e2 : (z'.natAbs : Int) = -z' := by omega
      rw [e1, e2, decide_eq_true h1, decide_eq_true h2, Int.neg_mul_neg]
      rfl
    · have e2 : (z'.natAbs : Int) = z' := by omega
      rw [e1, e2, decide_eq_true h1, decide_eq_false h2, Int.neg_mul, Int.neg_neg]
      rfl
  · have e1 : (z.natAbs : Int) = z := by omega
    by_cases h2 : z' < 0
    · have e2 : (z'.natAbs : Int) = -z' := by omega
      rw [e1, e2, decide_eq_false h1, decide_eq_true h2, Int.mul_neg, Int.neg_neg]
      rfl
    · have e2 : (z'.natAbs : Int) = z' := by omega
      rw [e1, e2, decide_eq_false h1, decide_eq_false h2]
      rfl

set_option maxRecDepth 100000 in
set_option maxHeartbeats 1600000 in
theorem mul_d (n : Bool) (a b s z : Int) (n' : Bool) (a' b' s' z' : Int) (w : World) (h : DecIs n a b z) (h' : DecIs n' a' b' z') (hz : z.natAbs < 1000000000000000000000000000000) (hz' : z'.natAbs < 1000000000000000000000000000000) (h0 : 0 ≤ s) (h0' : 0 ≤ s') (h9 : s + s' ≤ 9) (hp : z.natAbs * z'.natAbs < 1000000000000000000000000000000) :
    Calls Tryz.prog 8 #[.agg #[.bool n, .int .u64 a, .int .u64 b, .int .i64 s], .agg #[.bool n', .int .u64 a', .int .u64 b', .int .i64 s']] w (Ret w (IsDecE (z * z') (s + s') 0)) := by
  rw [← mul_sign h h']
  have ha := h.2.1
  have hb1 := h.2.2.1
  have ha' := h'.2.1
  have hb1' := h'.2.2.1
  have hpp : v2 a b * v2 a' b' < 340282366920938463463374607431768211456 := by rw [h.2.2.2, h'.2.2.2]; omega
  have hpe : v2 a b * v2 a' b' = z.natAbs * z'.natAbs := by rw [h.2.2.2, h'.2.2.2]
  have hH := Lib.hid h
  have h'H := Lib.hid h'
  have hzH := Lib.hid hz
  have hz'H := Lib.hid hz'
  have hpH := Lib.hid hp
  have hppH := Lib.hid hpp
  have hpeH := Lib.hid hpe
  clear h h' hz hz' hp hpp hpe
  have W : HB w [(w.heap.size + 1 + 1, 25, #[.bool false, .int .u64 0, .int .u64 0, .int .i64 0]), (w.heap.size + 1, 25, #[.bool n', .int .u64 a', .int .u64 b', .int .i64 s']), (w.heap.size, 25, #[.bool n, .int .u64 a, .int .u64 b, .int .i64 s])] (((w.alloc (.cells #[.bool n, .int .u64 a, .int .u64 b, .int .i64 s] 25)).alloc (.cells #[.bool n', .int .u64 a', .int .u64 b', .int .i64 s'] 25)).alloc (.cells #[.bool false, .int .u64 0, .int .u64 0, .int .i64 0] 25)) := by
    have h := (((HB.start (Below.refl _ w)).push #[.bool n, .int .u64 a, .int .u64 b, .int .i64 s] 25).push #[.bool n', .int .u64 a', .int .u64 b', .int .i64 s'] 25).push #[.bool false, .int .u64 0, .int .u64 0, .int .i64 0] 25
    simpa using h
  have hlg : w.heap.size ≤ w.heap.size + 1 + 1 := by omega
  go_enter Tryz.func8, Tryz.ntmps8
  go_wp2_with fail
  refine (right_d n a b s z _ hH.out hzH.out h0 (by omega)).mono ?_
  rintro e w1 ⟨_, rfl, rfl, hb⟩
  replace W := W.below hb
  clear hb
  obtain ⟨lq, q0, q1, q2, q3⟩ := HB.dec (t := 25) (g := w.heap.size + 1) (a := .bool n') (b := .int .u64 a') (c := .int .u64 b') (d := .int .i64 s') W (by simp)
  go_wp2_with fail
  refine (right_d n' a' b' s' z' _ h'H.out hz'H.out h0' (by omega)).mono ?_
  rintro e w2 ⟨_, rfl, rfl, hb⟩
  replace W := W.below hb
  clear hb lq q0 q1 q2 q3
  obtain ⟨lp, p0, p1, p2, p3⟩ := HB.dec (t := 25) (g := w.heap.size) (a := .bool n) (b := .int .u64 a) (c := .int .u64 b) (d := .int .i64 s) W (by simp)
  obtain ⟨lq, q0, q1, q2, q3⟩ := HB.dec (t := 25) (g := w.heap.size + 1) (a := .bool n') (b := .int .u64 a') (c := .int .u64 b') (d := .int .i64 s') W (by simp)
  go_wp2_with fail
  refine (mul_c a b a' b' _ ha hb1 ha' hb1').mono ?_
  rintro e w3 ⟨_, ⟨c0, c1, c2, c3, HM, rfl⟩, rfl, hb⟩
  replace W := W.below hb
  clear hb lq q0 q1 q2 q3 lp p0 p1 p2 p3
  go_wp2_with fail
  refine (short_c c0 c1 c2 c3 _).mono ?_
  rintro e w4 ⟨_, ⟨s0, s1, p, HS, rfl⟩, rfl, hb⟩
  replace W := W.below hb
  clear hb
  obtain ⟨rfl, hs0, hs1, es⟩ := mul_short HM HS hppH.out
  have hsl : v2 s0 s1 < 1000000000000000000000000000000 := by rw [es, hpeH.out]; exact hpH.out
  have ES := Lib.hid (es.trans hpeH.out)
  have HSL := Lib.hid hsl
  clear es hsl HM HS
  obtain ⟨lp, p0, p1, p2, p3⟩ := HB.dec (t := 25) (g := w.heap.size) (a := .bool n) (b := .int .u64 a) (c := .int .u64 b) (d := .int .i64 s) W (by simp)
  obtain ⟨lq, q0, q1, q2, q3⟩ := HB.dec (t := 25) (g := w.heap.size + 1) (a := .bool n') (b := .int .u64 a') (c := .int .u64 b') (d := .int .i64 s') W (by simp)
  replace W := W.push #[.int .u64 s0, .int .u64 s1] 23
  go_wp2_with fail
  refine (checked_d (n != n') s0 s1 (s + s') _ hs0 hs1 HSL.out (by omega) h9).mono ?_
  rintro e w5 ⟨_, ⟨m, c, d, HD, rfl⟩, rfl, hb⟩
  replace W := W.below hb
  clear hb lq q0 q1 q2 q3 lp p0 p1 p2 p3
  rw [ES.out] at HD
  obtain ⟨lq, q0, q1, q2, q3⟩ := HB.dec (t := 25) (g := w.heap.size + 1 + 1) (a := .bool false) (b := .int .u64 0) (c := .int .u64 0) (d := .int .i64 0) W (by simp)
  have Bz := HB.blk (g := w.heap.size + 1 + 1) (t := 25) (cs := #[.bool false, .int .u64 0, .int .u64 0, .int .i64 0]) W (by simp)
  have fz0 := Bz.frozen 0
  have fz1 := Bz.frozen 1
  have fz2 := Bz.frozen 2
  have fz3 := Bz.frozen 3
  clear Bz
  have HB1 := Lib.hid W.1
  clear W
  have HDh := Lib.hid HD
  clear HD
  go_wp2
  exact bodyPost_ret (v := .tuple #[.agg #[.bool m, .int .u64 c, .int .u64 d, .int .i64 (s + s')], .int .i64 0]) (by simp [results, Tryz.results8, go_sem, q0, q1, q2, q3]) rfl ⟨_, ⟨_, _, _, HDh.out, rfl⟩, rfl, bel4 HB1.out hlg⟩

end Go.Proofs.YtlhceelkefgjhaaGreatDoor

/- dec at any right decimal: sizeAt; Scaled where it is over. -/
import Derived.Test.YtkaflkofffgndaaDoorDecF
import Derived.Test.YtkaflkofffgndaaDoorHold
namespace Go.Proofs.YtkaflkofffgndaaDoor
open Go.RowKit
theorem v4_lo {a b : Int} : v4 a b 0 0 = v2 a b := by
  unfold v4
  have h : v2 0 0 = 0 := by
    unfold v2
    rw [Int.toNat_zero, Nat.zero_mul]
  rw [h, Nat.zero_mul, Nat.add_zero]
set_option maxRecDepth 100000 in
theorem mul_short_all {a b x y c0 c1 c2 c3 s0 s1 : Int} {p : Bool} (hm : MulR a b x y c0 c1 c2 c3) (hs : ShortR c0 c1 c2 c3 s0 s1 p) :
    U64 s0 ∧ U64 s1 ∧ ((v2 a b * v2 x y < 340282366920938463463374607431768211456 ∧ p = true ∧ v2 s0 s1 = v2 a b * v2 x y) ∨ (340282366920938463463374607431768211456 ≤ v2 a b * v2 x y ∧ p = false ∧ s0 = 0 ∧ s1 = 0)) := by
  obtain ⟨u0, u1, u2, u3, e⟩ := hm
  rw [← e]
  by_cases hl : v4 c0 c1 c2 c3 < 340282366920938463463374607431768211456
  · obtain ⟨z2, z3, e2⟩ := v4_low u0 u1 u2 u3 hl
    rcases hs with ⟨_, hp, rfl, rfl⟩ | ⟨hn, _⟩
    · exact ⟨u0, u1, .inl ⟨hl, hp, e2.symm⟩⟩
    · exact absurd ⟨z2, z3⟩ hn
  · rcases hs with ⟨⟨z2, z3⟩, _⟩ | ⟨_, hp, rfl, rfl⟩
    · exfalso
      subst z2 z3
      have := v2_lt u0 u1
      rw [← v4_lo] at this
      exact hl this
    · exact ⟨u64_0, u64_0, .inr ⟨Nat.le_of_not_lt hl, hp, rfl, rfl⟩⟩
/-- A number of two words, and whether it has room there. -/
def IsSz (M : Nat) (v : Value) : Prop := ∃ (x y : Int) (p : Bool), (U64 x ∧ U64 y ∧ ((M < 340282366920938463463374607431768211456 ∧ p = true ∧ v2 x y = M) ∨ (340282366920938463463374607431768211456 ≤ M ∧ p = false ∧ x = 0 ∧ y = 0))) ∧ v = .tuple #[.agg #[.int .u64 x, .int .u64 y], .bool p]
set_option maxRecDepth 100000 in
set_option maxHeartbeats 1600000 in
theorem sizeAt_all (n : Bool) (a b s t : Int) (w : World) (ha : U64 a) (hb' : U64 b) (h0 : 0 ≤ s) (hst : s ≤ t) (h9 : t ≤ 9) (M : Nat) (hM : v2 a b * 10 ^ (t - s).toNat = M) :
    Calls Tryd.prog 35 #[.agg #[.bool n, .int .u64 a, .int .u64 b, .int .i64 s], .int .i64 t] w (Ret w (IsSz M)) := by
  have W : HB w [(w.heap.size + 1, 25, #[.int .u64 0, .int .u64 0]), (w.heap.size, 27, #[.bool n, .int .u64 a, .int .u64 b, .int .i64 s])] ((w.alloc (.cells #[.bool n, .int .u64 a, .int .u64 b, .int .i64 s] 27)).alloc (.cells #[.int .u64 0, .int .u64 0] 25)) := by
    have h := ((HB.start (Below.refl _ w)).push #[.bool n, .int .u64 a, .int .u64 b, .int .i64 s] 27).push #[.int .u64 0, .int .u64 0] 25
    simpa using h
  have hle : w.heap.size ≤ w.heap.size + 1 := by omega
  have HM_ := Lib.hid hM
  clear hM
  go_enter Tryd.func35, Tryd.ntmps35
  go_wp2_with fail
  refine (ten_c (t - s) _).mono ?_
  rintro e w1 ⟨_, ⟨x, y, p, HT, rfl⟩, rfl, hb⟩
  replace W := W.below hb
  clear hb
  obtain ⟨hx, hy, ex⟩ := ten_fin HT (by omega) (by omega)
  have EX := Lib.hid ex
  clear ex HT
  obtain ⟨lq, q0, q1, q2, q3⟩ := HB.dec (t := 27) (g := w.heap.size) (a := .bool n) (b := .int .u64 a) (c := .int .u64 b) (d := .int .i64 s) W (by simp)
  replace W := W.push #[.int .u64 x, .int .u64 y] 25
  go_wp2_with fail
  refine (mul_c a b x y _ ha hb' hx hy).mono ?_
  rintro e w2 ⟨_, ⟨c0, c1, c2, c3, HM, rfl⟩, rfl, hb⟩
  replace W := W.below hb
  clear hb lq q0 q1 q2 q3
  go_wp2_with fail
  refine (short_c c0 c1 c2 c3 _).mono ?_
  rintro e w3 ⟨_, ⟨s0, s1, p', HS, rfl⟩, rfl, hb⟩
  replace W := W.below hb
  clear hb
  have hall := mul_short_all HM HS
  rw [EX.out, HM_.out] at hall
  have HA := Lib.hid hall
  clear hall HM HS
  obtain ⟨lq, q0, q1⟩ := HB.two (t := 25) (g := w.heap.size + 1) (a := .int .u64 0) (b := .int .u64 0) W (by simp)
  have Bz := HB.blk (g := w.heap.size + 1) (t := 25) (cs := #[.int .u64 0, .int .u64 0]) W (by simp)
  have fz0 := Bz.frozen 0
  have fz1 := Bz.frozen 1
  clear Bz
  have HB1 := Lib.hid W.1
  clear W
  go_wp2
  exact bodyPost_ret (v := .tuple #[.agg #[.int .u64 s0, .int .u64 s1], .bool p']) (by simp [results, Tryd.results35, go_sem, q0, q1]) rfl ⟨_, ⟨_, _, _, HA.out, rfl⟩, rfl, bel2 HB1.out hle⟩
set_option maxRecDepth 100000 in
set_option maxHeartbeats 1600000 in
theorem scaled_over (n : Bool) (a b s t : Int) (M : Nat) (w : World) (ha : U64 a) (hb' : U64 b) (hr : RightD n a b s) (hst : s ≤ t) (h9 : t ≤ 9) (hM : v2 a b * 10 ^ (t - s).toNat = M) (hov : 1000000000000000000000000000000 ≤ M) :
    Calls Tryd.prog 20 #[.agg #[.bool n, .int .u64 a, .int .u64 b, .int .i64 s], .int .i64 t] w (Ret w (· = .tuple #[.agg #[.bool false, .int .u64 0, .int .u64 0, .int .i64 0], .int .i64 3])) := by
  have h0 : 0 ≤ s := hr.2.1
  have t0 : 0 ≤ t := by omega
  have HR := Lib.hid hr
  have HM_ := Lib.hid hM
  have HO := Lib.hid hov
  clear hr hM hov
  have W : HB w [(w.heap.size + 1, 27, #[.bool false, .int .u64 0, .int .u64 0, .int .i64 0]), (w.heap.size, 27, #[.bool n, .int .u64 a, .int .u64 b, .int .i64 s])] ((w.alloc (.cells #[.bool n, .int .u64 a, .int .u64 b, .int .i64 s] 27)).alloc (.cells #[.bool false, .int .u64 0, .int .u64 0, .int .i64 0] 27)) := by
    have h := ((HB.start (Below.refl _ w)).push #[.bool n, .int .u64 a, .int .u64 b, .int .i64 s] 27).push #[.bool false, .int .u64 0, .int .u64 0, .int .i64 0] 27
    simpa using h
  have hlg : w.heap.size ≤ w.heap.size + 1 := by omega
  go_enter Tryd.func20, Tryd.ntmps20
  go_wp2_with fail
  have RC := right_c n a b s ((w.alloc (.cells #[.bool n, .int .u64 a, .int .u64 b, .int .i64 s] 27)).alloc (.cells #[.bool false, .int .u64 0, .int .u64 0, .int .i64 0] 27)) ha hb'
  rw [decide_eq_true HR.out] at RC
  refine RC.mono ?_
  clear RC
  rintro e w1 ⟨_, rfl, rfl, hb⟩
  replace W := W.below hb
  clear hb
  obtain ⟨lq, q0, q1, q2, q3⟩ := HB.dec (t := 27) (g := w.heap.size) (a := .bool n) (b := .int .u64 a) (c := .int .u64 b) (d := .int .i64 s) W (by simp)
  go_wp2_with fail
  refine (sizeAt_all n a b s t _ ha hb' h0 hst h9 M HM_.out).mono ?_
  rintro e w2 ⟨_, ⟨x, y, p, ⟨hx, hy, hp⟩, rfl⟩, rfl, hb⟩
  replace W := W.below hb
  clear hb lq q0 q1 q2 q3
  obtain ⟨lq, q0, q1, q2, q3⟩ := HB.dec (t := 27) (g := w.heap.size) (a := .bool n) (b := .int .u64 a) (c := .int .u64 b) (d := .int .i64 s) W (by simp)
  replace W := W.push #[.int .u64 x, .int .u64 y] 25
  rcases hp with ⟨_, rfl, ev⟩ | ⟨_, rfl, rfl, rfl⟩
  · have C := checked_c n x y t (w2.alloc (.cells #[.int .u64 x, .int .u64 y] 25)) hx hy
    have ec : chkV n (v2 x y) t = .tuple #[.agg #[.bool false, .int .u64 0, .int .u64 0, .int .i64 0], .int .i64 3] := by
      unfold chkV
      rw [if_neg (by rw [ev]; have := HO.out; omega)]
      rfl
    rw [ec] at C
    have HC := Lib.hid C
    clear C ec ev
    go_wp2_with fail
    refine HC.out.mono ?_
    rintro e w3 ⟨_, rfl, rfl, hb⟩
    replace W := W.below hb
    clear hb lq q0 q1 q2 q3
    obtain ⟨ly, y0, y1, y2, y3⟩ := HB.dec (t := 27) (g := w.heap.size + 1) (a := .bool false) (b := .int .u64 0) (c := .int .u64 0) (d := .int .i64 0) W (by simp)
    have Bz := HB.blk (g := w.heap.size + 1) (t := 27) (cs := #[.bool false, .int .u64 0, .int .u64 0, .int .i64 0]) W (by simp)
    have fz0 := Bz.frozen 0
    have fz1 := Bz.frozen 1
    have fz2 := Bz.frozen 2
    have fz3 := Bz.frozen 3
    clear Bz
    have HB1 := Lib.hid W.1
    clear W
    go_wp2
    exact bodyPost_ret (v := .tuple #[.agg #[.bool false, .int .u64 0, .int .u64 0, .int .i64 0], .int .i64 3]) (by simp [results, Tryd.results20, go_sem, y0, y1, y2, y3]) rfl ⟨_, rfl, rfl, bel4 HB1.out hlg⟩
  · obtain ⟨ly, y0, y1, y2, y3⟩ := HB.dec (t := 27) (g := w.heap.size + 1) (a := .bool false) (b := .int .u64 0) (c := .int .u64 0) (d := .int .i64 0) W (by simp)
    have Bz := HB.blk (g := w.heap.size + 1) (t := 27) (cs := #[.bool false, .int .u64 0, .int .u64 0, .int .i64 0]) W (by simp)
    have fz0 := Bz.frozen 0
    have fz1 := Bz.frozen 1
    have fz2 := Bz.frozen 2
    have fz3 := Bz.frozen 3
    clear Bz
    have HB1 := Lib.hid W.1
    clear W
    go_wp2
    exact bodyPost_ret (v := .tuple #[.agg #[.bool false, .int .u64 0, .int .u64 0, .int .i64 0], .int .i64 3]) (by simp [results, Tryd.results20, go_sem, y0, y1, y2, y3]) rfl ⟨_, rfl, rfl, bel4 HB1.out hlg⟩
end Go.Proofs.YtkaflkofffgndaaDoor

/- Package dec at any decimals: Neg, Sign, Mul, Scaled, Sub. -/
import Derived.Test.YtkaflkofffgndaaDoorDecI
import Derived.Test.YtkaflkofffgndaaDoorSubA
namespace Go.Proofs.YtkaflkofffgndaaDoor
open Go.RowKit
/-- A right decimal is the number that its words and its sign tell. -/
theorem right_z {n : Bool} {a b s : Int} (ha : U64 a) (hb : U64 b) (h : RightD n a b s) : DecIs n a b (zOf n (v2 a b)) := by
  refine ⟨?_, ha, hb, (zOf_abs _ _).symm⟩
  rw [zOf_neg]
  cases n
  · rfl
  · have h0 : v2 a b ≠ 0 := fun e => h.2.2.2 ⟨rfl, e⟩
    simp [h0]
/-- An answer that is a decimal. -/
def AnsD (V v : Value) : Prop := ∃ (m : Bool) (c d q : Int), V = .agg #[.bool m, .int .u64 c, .int .u64 d, .int .i64 q] ∧ v = .agg #[.bool m, .int .u64 c, .int .u64 d, .int .i64 q]
theorem zero_form : decV 0 0 = .agg #[.bool false, .int .u64 0, .int .u64 0, .int .i64 0] := by
  unfold decV
  rfl
def negV (n : Bool) (a b s : Int) : Value := if RightD n a b s then decV (-(zOf n (v2 a b))) s else decV 0 0
def signV (n : Bool) (a b s : Int) : Int := if RightD n a b s then (zOf n (v2 a b)).sign else 0
def mulV (n : Bool) (a b s : Int) (n' : Bool) (a' b' s' : Int) : Value := if RightD n a b s ∧ RightD n' a' b' s' then chkV (n != n') (v2 a b * v2 a' b') (s + s') else errV 1
def scaledV (n : Bool) (a b s t : Int) : Value := if RightD n a b s ∧ s ≤ t ∧ t ≤ 9 then chkZ (zAt (zOf n (v2 a b)) s t) t else errV 1
def subV (n : Bool) (a b s : Int) (n' : Bool) (a' b' s' : Int) : Value := if RightD n a b s ∧ RightD n' a' b' s' then chkZ (zAt (zOf n (v2 a b)) s (max s s') - zAt (zOf n' (v2 a' b')) s' (max s s')) (max s s') else errV 1
theorem zof_30 {n : Bool} {a b s : Int} (h : RightD n a b s) : (zOf n (v2 a b)).natAbs < 1000000000000000000000000000000 := by
  rw [zOf_abs]
  exact h.1

set_option maxRecDepth 100000 in
set_option maxHeartbeats 1600000 in
theorem mulA_ok (n : Bool) (a b s : Int) (n' : Bool) (a' b' s' : Int) (w : World) (ha : U64 a) (hb1 : U64 b) (ha' : U64 a') (hb1' : U64 b') (hr : RightD n a b s) (hr' : RightD n' a' b' s') :
    Calls Tryd.prog 19 #[.agg #[.bool n, .int .u64 a, .int .u64 b, .int .i64 s], .agg #[.bool n', .int .u64 a', .int .u64 b', .int .i64 s']] w (Ret w (Ans (chkV (n != n') (v2 a b * v2 a' b') (s + s')))) := by
  have hss : 0 ≤ s + s' ∧ s + s' ≤ 18 := by have := hr.2.1; have := hr.2.2.1; have := hr'.2.1; have := hr'.2.2.1; omega
  obtain ⟨hs0', hs9'⟩ := hss
  have HR := Lib.hid (decide_eq_true hr)
  clear hr
  have HR' := Lib.hid (decide_eq_true hr')
  clear hr'
  have W : HB w [(w.heap.size + 1 + 1, 27, #[.bool false, .int .u64 0, .int .u64 0, .int .i64 0]), (w.heap.size + 1, 27, #[.bool n', .int .u64 a', .int .u64 b', .int .i64 s']), (w.heap.size, 27, #[.bool n, .int .u64 a, .int .u64 b, .int .i64 s])] (((w.alloc (.cells #[.bool n, .int .u64 a, .int .u64 b, .int .i64 s] 27)).alloc (.cells #[.bool n', .int .u64 a', .int .u64 b', .int .i64 s'] 27)).alloc (.cells #[.bool false, .int .u64 0, .int .u64 0, .int .i64 0] 27)) := by
    have h := (((HB.start (Below.refl _ w)).push #[.bool n, .int .u64 a, .int .u64 b, .int .i64 s] 27).push #[.bool n', .int .u64 a', .int .u64 b', .int .i64 s'] 27).push #[.bool false, .int .u64 0, .int .u64 0, .int .i64 0] 27
    simpa using h
  have hlg : w.heap.size ≤ w.heap.size + 1 + 1 := by omega
  go_enter Tryd.func19, Tryd.ntmps19
  have RC := right_c n a b s (((w.alloc (.cells #[.bool n, .int .u64 a, .int .u64 b, .int .i64 s] 27)).alloc (.cells #[.bool n', .int .u64 a', .int .u64 b', .int .i64 s'] 27)).alloc (.cells #[.bool false, .int .u64 0, .int .u64 0, .int .i64 0] 27)) ha hb1
  rw [HR.out] at RC
  have RH := Lib.hid RC
  clear RC
  go_wp2_with fail
  refine (RH.out).mono ?_
  rintro e w1 ⟨_, rfl, rfl, hb⟩
  replace W := W.below hb
  clear hb RH
  obtain ⟨lq, q0, q1, q2, q3⟩ := HB.dec (t := 27) (g := w.heap.size + 1) (a := .bool n') (b := .int .u64 a') (c := .int .u64 b') (d := .int .i64 s') W (by simp)
  have RC := right_c n' a' b' s' w1 ha' hb1'
  rw [HR'.out] at RC
  have RH := Lib.hid RC
  clear RC
  go_wp2_with fail
  refine (RH.out).mono ?_
  rintro e w2 ⟨_, rfl, rfl, hb⟩
  replace W := W.below hb
  clear hb RH lq q0 q1 q2 q3
  obtain ⟨lp, p0, p1, p2, p3⟩ := HB.dec (t := 27) (g := w.heap.size) (a := .bool n) (b := .int .u64 a) (c := .int .u64 b) (d := .int .i64 s) W (by simp)
  obtain ⟨lq, q0, q1, q2, q3⟩ := HB.dec (t := 27) (g := w.heap.size + 1) (a := .bool n') (b := .int .u64 a') (c := .int .u64 b') (d := .int .i64 s') W (by simp)
  go_wp2_with fail
  refine (mul_c a b a' b' _ ha hb1 ha' hb1').mono ?_
  rintro e w3 ⟨_, ⟨c0, c1, c2, c3, HM, rfl⟩, rfl, hb⟩
  replace W := W.below hb
  clear hb lq q0 q1 q2 q3 lp p0 p1 p2 p3
  go_wp2_with fail
  refine (short_c c0 c1 c2 c3 _).mono ?_
  rintro e w4 ⟨_, ⟨s0, s1, p, HS, rfl⟩, rfl, hb⟩
  replace W := W.below hb
  clear hb
  obtain ⟨hs0, hs1, hall⟩ := mul_short_all HM HS
  clear HM HS
  rcases hall with ⟨_, rfl, es⟩ | ⟨hov, rfl, rfl, rfl⟩
  · have ES := Lib.hid es
    clear es
    obtain ⟨lp, p0, p1, p2, p3⟩ := HB.dec (t := 27) (g := w.heap.size) (a := .bool n) (b := .int .u64 a) (c := .int .u64 b) (d := .int .i64 s) W (by simp)
    obtain ⟨lq, q0, q1, q2, q3⟩ := HB.dec (t := 27) (g := w.heap.size + 1) (a := .bool n') (b := .int .u64 a') (c := .int .u64 b') (d := .int .i64 s') W (by simp)
    replace W := W.push #[.int .u64 s0, .int .u64 s1] 25
    go_wp2_with fail
    refine (checked_x (n != n') s0 s1 (s + s') _ hs0 hs1).mono ?_
    rintro e w5 ⟨_, ⟨m, c, d, q, er, HD, rfl⟩, rfl, hb⟩
    replace W := W.below hb
    clear hb lq q0 q1 q2 q3 lp p0 p1 p2 p3
    rw [ES.out] at HD
    have HDh := Lib.hid HD
    clear HD
    obtain ⟨lq, q0, q1, q2, q3⟩ := HB.dec (t := 27) (g := w.heap.size + 1 + 1) (a := .bool false) (b := .int .u64 0) (c := .int .u64 0) (d := .int .i64 0) W (by simp)
    have Bz := HB.blk (g := w.heap.size + 1 + 1) (t := 27) (cs := #[.bool false, .int .u64 0, .int .u64 0, .int .i64 0]) W (by simp)
    have fz0 := Bz.frozen 0
    have fz1 := Bz.frozen 1
    have fz2 := Bz.frozen 2
    have fz3 := Bz.frozen 3
    clear Bz
    have HB1 := Lib.hid W.1
    clear W
    go_wp2
    exact bodyPost_ret (v := .tuple #[.agg #[.bool m, .int .u64 c, .int .u64 d, .int .i64 q], .int .i64 er]) (by simp [results, Tryd.results19, go_sem, q0, q1, q2, q3]) rfl ⟨_, ⟨_, _, _, _, _, HDh.out, rfl⟩, rfl, bel4 HB1.out hlg⟩
  · have HV := Lib.hid (show chkV (n != n') (v2 a b * v2 a' b') (s + s') = errV 3 by unfold chkV; rw [if_neg (fun h => absurd h.1 (by omega))])
    clear hov hs0 hs1
    replace W := W.push #[.int .u64 0, .int .u64 0] 25
    obtain ⟨lq, q0, q1, q2, q3⟩ := HB.dec (t := 27) (g := w.heap.size + 1 + 1) (a := .bool false) (b := .int .u64 0) (c := .int .u64 0) (d := .int .i64 0) W (by simp)
    have Bz := HB.blk (g := w.heap.size + 1 + 1) (t := 27) (cs := #[.bool false, .int .u64 0, .int .u64 0, .int .i64 0]) W (by simp)
    have fz0 := Bz.frozen 0
    have fz1 := Bz.frozen 1
    have fz2 := Bz.frozen 2
    have fz3 := Bz.frozen 3
    clear Bz
    have HB1 := Lib.hid W.1
    clear W
    go_wp2
    exact bodyPost_ret (v := .tuple #[.agg #[.bool false, .int .u64 0, .int .u64 0, .int .i64 0], .int .i64 3]) (by simp [results, Tryd.results19, go_sem, q0, q1, q2, q3]) rfl ⟨_, ⟨_, _, _, _, _, HV.out.trans (err_form 3), rfl⟩, rfl, bel4 HB1.out hlg⟩

set_option maxRecDepth 100000 in
set_option maxHeartbeats 1600000 in
theorem mulA_a (n : Bool) (a b s : Int) (n' : Bool) (a' b' s' : Int) (w : World) (ha : U64 a) (hb1 : U64 b) (hr : ¬ RightD n a b s) :
    Calls Tryd.prog 19 #[.agg #[.bool n, .int .u64 a, .int .u64 b, .int .i64 s], .agg #[.bool n', .int .u64 a', .int .u64 b', .int .i64 s']] w (Ret w (Ans (errV 1))) := by
  have HR := Lib.hid (decide_eq_false hr)
  clear hr
  have W : HB w [(w.heap.size + 1 + 1, 27, #[.bool false, .int .u64 0, .int .u64 0, .int .i64 0]), (w.heap.size + 1, 27, #[.bool n', .int .u64 a', .int .u64 b', .int .i64 s']), (w.heap.size, 27, #[.bool n, .int .u64 a, .int .u64 b, .int .i64 s])] (((w.alloc (.cells #[.bool n, .int .u64 a, .int .u64 b, .int .i64 s] 27)).alloc (.cells #[.bool n', .int .u64 a', .int .u64 b', .int .i64 s'] 27)).alloc (.cells #[.bool false, .int .u64 0, .int .u64 0, .int .i64 0] 27)) := by
    have h := (((HB.start (Below.refl _ w)).push #[.bool n, .int .u64 a, .int .u64 b, .int .i64 s] 27).push #[.bool n', .int .u64 a', .int .u64 b', .int .i64 s'] 27).push #[.bool false, .int .u64 0, .int .u64 0, .int .i64 0] 27
    simpa using h
  have hlg : w.heap.size ≤ w.heap.size + 1 + 1 := by omega
  go_enter Tryd.func19, Tryd.ntmps19
  have RC := right_c n a b s (((w.alloc (.cells #[.bool n, .int .u64 a, .int .u64 b, .int .i64 s] 27)).alloc (.cells #[.bool n', .int .u64 a', .int .u64 b', .int .i64 s'] 27)).alloc (.cells #[.bool false, .int .u64 0, .int .u64 0, .int .i64 0] 27)) ha hb1
  rw [HR.out] at RC
  have RH := Lib.hid RC
  clear RC
  go_wp2_with fail
  refine (RH.out).mono ?_
  rintro e w1 ⟨_, rfl, rfl, hb⟩
  replace W := W.below hb
  clear hb RH
  obtain ⟨lq, q0, q1, q2, q3⟩ := HB.dec (t := 27) (g := w.heap.size + 1 + 1) (a := .bool false) (b := .int .u64 0) (c := .int .u64 0) (d := .int .i64 0) W (by simp)
  have Bz := HB.blk (g := w.heap.size + 1 + 1) (t := 27) (cs := #[.bool false, .int .u64 0, .int .u64 0, .int .i64 0]) W (by simp)
  have fz0 := Bz.frozen 0
  have fz1 := Bz.frozen 1
  have fz2 := Bz.frozen 2
  have fz3 := Bz.frozen 3
  clear Bz
  have HB1 := Lib.hid W.1
  clear W
  go_wp2
  exact bodyPost_ret (v := .tuple #[.agg #[.bool false, .int .u64 0, .int .u64 0, .int .i64 0], .int .i64 1]) (by simp [results, Tryd.results19, go_sem, q0, q1, q2, q3]) rfl ⟨_, ans_err 1, rfl, bel4 HB1.out hlg⟩

set_option maxRecDepth 100000 in
set_option maxHeartbeats 1600000 in
theorem mulA_b (n : Bool) (a b s : Int) (n' : Bool) (a' b' s' : Int) (w : World) (ha : U64 a) (hb1 : U64 b) (ha' : U64 a') (hb1' : U64 b') (hr : RightD n a b s) (hr' : ¬ RightD n' a' b' s') :
    Calls Tryd.prog 19 #[.agg #[.bool n, .int .u64 a, .int .u64 b, .int .i64 s], .agg #[.bool n', .int .u64 a', .int .u64 b', .int .i64 s']] w (Ret w (Ans (errV 1))) := by
  have HR := Lib.hid (decide_eq_true hr)
  clear hr
  have HR' := Lib.hid (decide_eq_false hr')
  clear hr'
  have W : HB w [(w.heap.size + 1 + 1, 27, #[.bool false, .int .u64 0, .int .u64 0, .int .i64 0]), (w.heap.size + 1, 27, #[.bool n', .int .u64 a', .int .u64 b', .int .i64 s']), (w.heap.size, 27, #[.bool n, .int .u64 a, .int .u64 b, .int .i64 s])] (((w.alloc (.cells #[.bool n, .int .u64 a, .int .u64 b, .int .i64 s] 27)).alloc (.cells #[.bool n', .int .u64 a', .int .u64 b', .int .i64 s'] 27)).alloc (.cells #[.bool false, .int .u64 0, .int .u64 0, .int .i64 0] 27)) := by
    have h := (((HB.start (Below.refl _ w)).push #[.bool n, .int .u64 a, .int .u64 b, .int .i64 s] 27).push #[.bool n', .int .u64 a', .int .u64 b', .int .i64 s'] 27).push #[.bool false, .int .u64 0, .int .u64 0, .int .i64 0] 27
    simpa using h
  have hlg : w.heap.size ≤ w.heap.size + 1 + 1 := by omega
  go_enter Tryd.func19, Tryd.ntmps19
  have RC := right_c n a b s (((w.alloc (.cells #[.bool n, .int .u64 a, .int .u64 b, .int .i64 s] 27)).alloc (.cells #[.bool n', .int .u64 a', .int .u64 b', .int .i64 s'] 27)).alloc (.cells #[.bool false, .int .u64 0, .int .u64 0, .int .i64 0] 27)) ha hb1
  rw [HR.out] at RC
  have RH := Lib.hid RC
  clear RC
  go_wp2_with fail
  refine (RH.out).mono ?_
  rintro e w1 ⟨_, rfl, rfl, hb⟩
  replace W := W.below hb
  clear hb RH
  obtain ⟨lq, q0, q1, q2, q3⟩ := HB.dec (t := 27) (g := w.heap.size + 1) (a := .bool n') (b := .int .u64 a') (c := .int .u64 b') (d := .int .i64 s') W (by simp)
  have RC := right_c n' a' b' s' w1 ha' hb1'
  rw [HR'.out] at RC
  have RH := Lib.hid RC
  clear RC
  go_wp2_with fail
  refine (RH.out).mono ?_
  rintro e w2 ⟨_, rfl, rfl, hb⟩
  replace W := W.below hb
  clear hb RH lq q0 q1 q2 q3
  obtain ⟨lq, q0, q1, q2, q3⟩ := HB.dec (t := 27) (g := w.heap.size + 1 + 1) (a := .bool false) (b := .int .u64 0) (c := .int .u64 0) (d := .int .i64 0) W (by simp)
  have Bz := HB.blk (g := w.heap.size + 1 + 1) (t := 27) (cs := #[.bool false, .int .u64 0, .int .u64 0, .int .i64 0]) W (by simp)
  have fz0 := Bz.frozen 0
  have fz1 := Bz.frozen 1
  have fz2 := Bz.frozen 2
  have fz3 := Bz.frozen 3
  clear Bz
  have HB1 := Lib.hid W.1
  clear W
  go_wp2
  exact bodyPost_ret (v := .tuple #[.agg #[.bool false, .int .u64 0, .int .u64 0, .int .i64 0], .int .i64 1]) (by simp [results, Tryd.results19, go_sem, q0, q1, q2, q3]) rfl ⟨_, ans_err 1, rfl, bel4 HB1.out hlg⟩

theorem mul_all (n : Bool) (a b s : Int) (n' : Bool) (a' b' s' : Int) (w : World) (ha : U64 a) (hb1 : U64 b) (ha' : U64 a') (hb1' : U64 b') :
    Calls Tryd.prog 19 #[.agg #[.bool n, .int .u64 a, .int .u64 b, .int .i64 s], .agg #[.bool n', .int .u64 a', .int .u64 b', .int .i64 s']] w (Ret w (Ans (mulV n a b s n' a' b' s'))) := by
  unfold mulV
  by_cases hr : RightD n a b s
  · by_cases hr' : RightD n' a' b' s'
    · rw [if_pos ⟨hr, hr'⟩]
      exact mulA_ok n a b s n' a' b' s' w ha hb1 ha' hb1' hr hr'
    · rw [if_neg (fun h => hr' h.2)]
      exact mulA_b n a b s n' a' b' s' w ha hb1 ha' hb1' hr hr'
  · rw [if_neg (fun h => hr h.1)]
    exact mulA_a n a b s n' a' b' s' w ha hb1 hr

set_option maxRecDepth 100000 in
set_option maxHeartbeats 1600000 in
theorem scaledA_ok (n : Bool) (a b s t : Int) (w : World) (ha : U64 a) (hb1 : U64 b) (hr : RightD n a b s) (hst : s ≤ t) (h9 : t ≤ 9) :
    Calls Tryd.prog 20 #[.agg #[.bool n, .int .u64 a, .int .u64 b, .int .i64 s], .int .i64 t] w (Ret w (Ans (chkV n (upW a b s t) t))) := by
  have h0 : 0 ≤ s := hr.2.1
  have W : HB w [(w.heap.size + 1, 27, #[.bool false, .int .u64 0, .int .u64 0, .int .i64 0]), (w.heap.size, 27, #[.bool n, .int .u64 a, .int .u64 b, .int .i64 s])] ((w.alloc (.cells #[.bool n, .int .u64 a, .int .u64 b, .int .i64 s] 27)).alloc (.cells #[.bool false, .int .u64 0, .int .u64 0, .int .i64 0] 27)) := by
    have h := ((HB.start (Below.refl _ w)).push #[.bool n, .int .u64 a, .int .u64 b, .int .i64 s] 27).push #[.bool false, .int .u64 0, .int .u64 0, .int .i64 0] 27
    simpa using h
  have hle : w.heap.size ≤ w.heap.size + 1 := by omega
  have HR := Lib.hid (decide_eq_true hr)
  clear hr
  go_enter Tryd.func20, Tryd.ntmps20
  have RC := right_c n a b s ((w.alloc (.cells #[.bool n, .int .u64 a, .int .u64 b, .int .i64 s] 27)).alloc (.cells #[.bool false, .int .u64 0, .int .u64 0, .int .i64 0] 27)) ha hb1
  rw [HR.out] at RC
  have RH := Lib.hid RC
  clear RC
  go_wp2_with fail
  refine (RH.out).mono ?_
  rintro e w1 ⟨_, rfl, rfl, hb⟩
  replace W := W.below hb
  clear hb RH
  obtain ⟨lq, q0, q1, q2, q3⟩ := HB.dec (t := 27) (g := w.heap.size) (a := .bool n) (b := .int .u64 a) (c := .int .u64 b) (d := .int .i64 s) W (by simp)
  go_wp2_with fail
  refine (sizeAt_all n a b s t _ ha hb1 h0 hst h9 (upW a b s t) rfl).mono ?_
  rintro e w2 ⟨_, ⟨x, y, p, ⟨hx, hy, hall⟩, rfl⟩, rfl, hb⟩
  replace W := W.below hb
  clear hb lq q0 q1 q2 q3
  rcases hall with ⟨_, rfl, es⟩ | ⟨hov, rfl, rfl, rfl⟩
  · have ES := Lib.hid es
    clear es
    obtain ⟨lq, q0, q1, q2, q3⟩ := HB.dec (t := 27) (g := w.heap.size) (a := .bool n) (b := .int .u64 a) (c := .int .u64 b) (d := .int .i64 s) W (by simp)
    replace W := W.push #[.int .u64 x, .int .u64 y] 25
    go_wp2_with fail
    refine (checked_x n x y t _ hx hy).mono ?_
    rintro e w3 ⟨_, ⟨m, c, d, q, er, HD, rfl⟩, rfl, hb⟩
    replace W := W.below hb
    clear hb lq q0 q1 q2 q3
    rw [ES.out] at HD
    have HDh := Lib.hid HD
    clear HD
    obtain ⟨ly, y0, y1, y2, y3⟩ := HB.dec (t := 27) (g := w.heap.size + 1) (a := .bool false) (b := .int .u64 0) (c := .int .u64 0) (d := .int .i64 0) W (by simp)
    have Bz := HB.blk (g := w.heap.size + 1) (t := 27) (cs := #[.bool false, .int .u64 0, .int .u64 0, .int .i64 0]) W (by simp)
    have fz0 := Bz.frozen 0
    have fz1 := Bz.frozen 1
    have fz2 := Bz.frozen 2
    have fz3 := Bz.frozen 3
    clear Bz
    have HB1 := Lib.hid W.1
    clear W
    go_wp2
    exact bodyPost_ret (v := .tuple #[.agg #[.bool m, .int .u64 c, .int .u64 d, .int .i64 q], .int .i64 er]) (by simp [results, Tryd.results20, go_sem, y0, y1, y2, y3]) rfl ⟨_, ⟨_, _, _, _, _, HDh.out, rfl⟩, rfl, bel4 HB1.out hle⟩
  · have HV := Lib.hid (show chkV n (upW a b s t) t = errV 3 by unfold chkV; rw [if_neg (fun h => absurd h.1 (by omega))])
    clear hov hx hy
    replace W := W.push #[.int .u64 0, .int .u64 0] 25
    obtain ⟨ly, y0, y1, y2, y3⟩ := HB.dec (t := 27) (g := w.heap.size + 1) (a := .bool false) (b := .int .u64 0) (c := .int .u64 0) (d := .int .i64 0) W (by simp)
    have Bz := HB.blk (g := w.heap.size + 1) (t := 27) (cs := #[.bool false, .int .u64 0, .int .u64 0, .int .i64 0]) W (by simp)
    have fz0 := Bz.frozen 0
    have fz1 := Bz.frozen 1
    have fz2 := Bz.frozen 2
    have fz3 := Bz.frozen 3
    clear Bz
    have HB1 := Lib.hid W.1
    clear W
    go_wp2
    exact bodyPost_ret (v := .tuple #[.agg #[.bool false, .int .u64 0, .int .u64 0, .int .i64 0], .int .i64 3]) (by simp [results, Tryd.results20, go_sem, y0, y1, y2, y3]) rfl ⟨_, ⟨_, _, _, _, _, HV.out.trans (err_form 3), rfl⟩, rfl, bel4 HB1.out hle⟩

set_option maxRecDepth 100000 in
set_option maxHeartbeats 1600000 in
theorem scaledA_no (n : Bool) (a b s t : Int) (w : World) (ha : U64 a) (hb1 : U64 b) (hr : ¬ RightD n a b s) :
    Calls Tryd.prog 20 #[.agg #[.bool n, .int .u64 a, .int .u64 b, .int .i64 s], .int .i64 t] w (Ret w (Ans (errV 1))) := by
  have W : HB w [(w.heap.size + 1, 27, #[.bool false, .int .u64 0, .int .u64 0, .int .i64 0]), (w.heap.size, 27, #[.bool n, .int .u64 a, .int .u64 b, .int .i64 s])] ((w.alloc (.cells #[.bool n, .int .u64 a, .int .u64 b, .int .i64 s] 27)).alloc (.cells #[.bool false, .int .u64 0, .int .u64 0, .int .i64 0] 27)) := by
    have h := ((HB.start (Below.refl _ w)).push #[.bool n, .int .u64 a, .int .u64 b, .int .i64 s] 27).push #[.bool false, .int .u64 0, .int .u64 0, .int .i64 0] 27
    simpa using h
  have hle : w.heap.size ≤ w.heap.size + 1 := by omega
  have HR := Lib.hid (decide_eq_false hr)
  clear hr
  go_enter Tryd.func20, Tryd.ntmps20
  have RC := right_c n a b s ((w.alloc (.cells #[.bool n, .int .u64 a, .int .u64 b, .int .i64 s] 27)).alloc (.cells #[.bool false, .int .u64 0, .int .u64 0, .int .i64 0] 27)) ha hb1
  rw [HR.out] at RC
  have RH := Lib.hid RC
  clear RC
  go_wp2_with fail
  refine (RH.out).mono ?_
  rintro e w1 ⟨_, rfl, rfl, hb⟩
  replace W := W.below hb
  clear hb RH
  obtain ⟨ly, y0, y1, y2, y3⟩ := HB.dec (t := 27) (g := w.heap.size + 1) (a := .bool false) (b := .int .u64 0) (c := .int .u64 0) (d := .int .i64 0) W (by simp)
  have Bz := HB.blk (g := w.heap.size + 1) (t := 27) (cs := #[.bool false, .int .u64 0, .int .u64 0, .int .i64 0]) W (by simp)
  have fz0 := Bz.frozen 0
  have fz1 := Bz.frozen 1
  have fz2 := Bz.frozen 2
  have fz3 := Bz.frozen 3
  clear Bz
  have HB1 := Lib.hid W.1
  clear W
  go_wp2
  exact bodyPost_ret (v := .tuple #[.agg #[.bool false, .int .u64 0, .int .u64 0, .int .i64 0], .int .i64 1]) (by simp [results, Tryd.results20, go_sem, y0, y1, y2, y3]) rfl ⟨_, ans_err 1, rfl, bel4 HB1.out hle⟩

set_option maxRecDepth 100000 in
set_option maxHeartbeats 1600000 in
theorem scaledA_lo (n : Bool) (a b s t : Int) (w : World) (ha : U64 a) (hb1 : U64 b) (hr : RightD n a b s) (hts : t < s) :
    Calls Tryd.prog 20 #[.agg #[.bool n, .int .u64 a, .int .u64 b, .int .i64 s], .int .i64 t] w (Ret w (Ans (errV 1))) := by
  have W : HB w [(w.heap.size + 1, 27, #[.bool false, .int .u64 0, .int .u64 0, .int .i64 0]), (w.heap.size, 27, #[.bool n, .int .u64 a, .int .u64 b, .int .i64 s])] ((w.alloc (.cells #[.bool n, .int .u64 a, .int .u64 b, .int .i64 s] 27)).alloc (.cells #[.bool false, .int .u64 0, .int .u64 0, .int .i64 0] 27)) := by
    have h := ((HB.start (Below.refl _ w)).push #[.bool n, .int .u64 a, .int .u64 b, .int .i64 s] 27).push #[.bool false, .int .u64 0, .int .u64 0, .int .i64 0] 27
    simpa using h
  have hle : w.heap.size ≤ w.heap.size + 1 := by omega
  have HR := Lib.hid (decide_eq_true hr)
  clear hr
  go_enter Tryd.func20, Tryd.ntmps20
  have RC := right_c n a b s ((w.alloc (.cells #[.bool n, .int .u64 a, .int .u64 b, .int .i64 s] 27)).alloc (.cells #[.bool false, .int .u64 0, .int .u64 0, .int .i64 0] 27)) ha hb1
  rw [HR.out] at RC
  have RH := Lib.hid RC
  clear RC
  go_wp2_with fail
  refine (RH.out).mono ?_
  rintro e w1 ⟨_, rfl, rfl, hb⟩
  replace W := W.below hb
  clear hb RH
  obtain ⟨ly, y0, y1, y2, y3⟩ := HB.dec (t := 27) (g := w.heap.size + 1) (a := .bool false) (b := .int .u64 0) (c := .int .u64 0) (d := .int .i64 0) W (by simp)
  have Bz := HB.blk (g := w.heap.size + 1) (t := 27) (cs := #[.bool false, .int .u64 0, .int .u64 0, .int .i64 0]) W (by simp)
  have fz0 := Bz.frozen 0
  have fz1 := Bz.frozen 1
  have fz2 := Bz.frozen 2
  have fz3 := Bz.frozen 3
  clear Bz
  obtain ⟨lq, q0, q1, q2, q3⟩ := HB.dec (t := 27) (g := w.heap.size) (a := .bool n) (b := .int .u64 a) (c := .int .u64 b) (d := .int .i64 s) W (by simp)
  have HB1 := Lib.hid W.1
  clear W
  go_wp2
  exact bodyPost_ret (v := .tuple #[.agg #[.bool false, .int .u64 0, .int .u64 0, .int .i64 0], .int .i64 1]) (by simp [results, Tryd.results20, go_sem, y0, y1, y2, y3]) rfl ⟨_, ans_err 1, rfl, bel4 HB1.out hle⟩

set_option maxRecDepth 100000 in
set_option maxHeartbeats 1600000 in
theorem scaledA_hi (n : Bool) (a b s t : Int) (w : World) (ha : U64 a) (hb1 : U64 b) (hr : RightD n a b s) (hst : s ≤ t) (h9 : 9 < t) :
    Calls Tryd.prog 20 #[.agg #[.bool n, .int .u64 a, .int .u64 b, .int .i64 s], .int .i64 t] w (Ret w (Ans (errV 1))) := by
  have W : HB w [(w.heap.size + 1, 27, #[.bool false, .int .u64 0, .int .u64 0, .int .i64 0]), (w.heap.size, 27, #[.bool n, .int .u64 a, .int .u64 b, .int .i64 s])] ((w.alloc (.cells #[.bool n, .int .u64 a, .int .u64 b, .int .i64 s] 27)).alloc (.cells #[.bool false, .int .u64 0, .int .u64 0, .int .i64 0] 27)) := by
    have h := ((HB.start (Below.refl _ w)).push #[.bool n, .int .u64 a, .int .u64 b, .int .i64 s] 27).push #[.bool false, .int .u64 0, .int .u64 0, .int .i64 0] 27
    simpa using h
  have hle : w.heap.size ≤ w.heap.size + 1 := by omega
  have HR := Lib.hid (decide_eq_true hr)
  clear hr
  go_enter Tryd.func20, Tryd.ntmps20
  have RC := right_c n a b s ((w.alloc (.cells #[.bool n, .int .u64 a, .int .u64 b, .int .i64 s] 27)).alloc (.cells #[.bool false, .int .u64 0, .int .u64 0, .int .i64 0] 27)) ha hb1
  rw [HR.out] at RC
  have RH := Lib.hid RC
  clear RC
  go_wp2_with fail
  refine (RH.out).mono ?_
  rintro e w1 ⟨_, rfl, rfl, hb⟩
  replace W := W.below hb
  clear hb RH
  obtain ⟨ly, y0, y1, y2, y3⟩ := HB.dec (t := 27) (g := w.heap.size + 1) (a := .bool false) (b := .int .u64 0) (c := .int .u64 0) (d := .int .i64 0) W (by simp)
  have Bz := HB.blk (g := w.heap.size + 1) (t := 27) (cs := #[.bool false, .int .u64 0, .int .u64 0, .int .i64 0]) W (by simp)
  have fz0 := Bz.frozen 0
  have fz1 := Bz.frozen 1
  have fz2 := Bz.frozen 2
  have fz3 := Bz.frozen 3
  clear Bz
  obtain ⟨lq, q0, q1, q2, q3⟩ := HB.dec (t := 27) (g := w.heap.size) (a := .bool n) (b := .int .u64 a) (c := .int .u64 b) (d := .int .i64 s) W (by simp)
  have HB1 := Lib.hid W.1
  clear W
  go_wp2
  exact bodyPost_ret (v := .tuple #[.agg #[.bool false, .int .u64 0, .int .u64 0, .int .i64 0], .int .i64 1]) (by simp [results, Tryd.results20, go_sem, y0, y1, y2, y3]) rfl ⟨_, ans_err 1, rfl, bel4 HB1.out hle⟩

theorem scaled_all (n : Bool) (a b s t : Int) (w : World) (ha : U64 a) (hb1 : U64 b) :
    Calls Tryd.prog 20 #[.agg #[.bool n, .int .u64 a, .int .u64 b, .int .i64 s], .int .i64 t] w (Ret w (Ans (scaledV n a b s t))) := by
  unfold scaledV
  by_cases hr : RightD n a b s
  · by_cases hst : s ≤ t
    · by_cases h9 : t ≤ 9
      · rw [if_pos ⟨hr, hst, h9⟩, zAt_zOf]
        have h0 := hr.2.1
        exact ans_of (scaledA_ok n a b s t w ha hb1 hr hst h9) (chk_z _ _ _ (by omega) h9)
      · rw [if_neg (fun h => h9 h.2.2)]
        exact scaledA_hi n a b s t w ha hb1 hr hst (by omega)
    · rw [if_neg (fun h => hst h.2.1)]
      exact scaledA_lo n a b s t w ha hb1 hr (by omega)
  · rw [if_neg (fun h => hr h.1)]
    exact scaledA_no n a b s t w ha hb1 hr

theorem decIs_zOf {n : Bool} {a b z : Int} (h : DecIs n a b z) : zOf n (v2 a b) = z := by
  obtain ⟨rfl, _, _, e⟩ := h
  rw [e]
  unfold zOf
  by_cases hz : z < 0
  · rw [decide_eq_true hz, if_pos rfl]
    omega
  · rw [decide_eq_false hz, if_neg (by simp)]
    omega
end Go.Proofs.YtkaflkofffgndaaDoor

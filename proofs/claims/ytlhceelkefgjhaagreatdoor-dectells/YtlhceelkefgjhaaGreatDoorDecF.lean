/- Package dec: contracts at small decimals: cmpSize, Cmp. -/
import Derived.Test.YtlhceelkefgjhaaGreatDoorDecE
import Derived.Shelf.Small.Wraps
namespace Go.Proofs.YtlhceelkefgjhaaGreatDoor
open Go.RowKit

set_option maxHeartbeats 400000 in
theorem compare_c (x y : Int) (w : World) : Calls Tryz.prog 52 #[.int .i64 x, .int .i64 y] w fun e w' => e = .returned (.int .i64 (Lib.compareInt x y)) ∧ w = w' := by
  unfold Lib.compareInt
  rcases (show x < y ∨ x = y ∨ y < x by omega) with h | h | h
  · rw [if_pos h]
    go_enter Tryz.func52, Tryz.ntmps52
    go_wp2
    go_ret
    exact ⟨rfl, rfl⟩
  · subst h
    rw [if_neg (by omega), if_neg (by omega)]
    go_enter Tryz.func52, Tryz.ntmps52
    go_wp2
    go_ret
    exact ⟨rfl, rfl⟩
  · have h' : ¬ x < y := by omega
    rw [if_neg h', if_pos (by omega)]
    go_enter Tryz.func52, Tryz.ntmps52
    go_wp2
    go_ret
    exact ⟨rfl, rfl⟩
def cmpZ (x y : Int) : Int := if x = y then 0 else if x < y then -1 else 1

set_option maxRecDepth 100000 in
set_option maxHeartbeats 1600000 in
theorem cmpSize_d (n : Bool) (a b s z : Int) (n' : Bool) (a' b' s' z' t : Int) (w : World) (h : DecIs n a b z) (h' : DecIs n' a' b' z') (hz : Sm z) (hz' : Sm z') (h0 : 0 ≤ s) (h0' : 0 ≤ s') (h9 : s ≤ 9) (h9' : s' ≤ 9) (ht : (s < s' ∧ s' = t) ∨ (s' ≤ s ∧ s = t)) :
    Calls Tryz.prog 53 #[.agg #[.bool n, .int .u64 a, .int .u64 b, .int .i64 s], .agg #[.bool n', .int .u64 a', .int .u64 b', .int .i64 s']] w (Ret w (IsInt (cmpI (upN z s t) (upN z' s' t)))) := by
  have ht9 : t ≤ 9 := by omega
  have hst : s ≤ t := by omega
  have hst' : s' ≤ t := by omega
  have hH := Lib.hid h
  have h'H := Lib.hid h'
  have hzH := Lib.hid hz
  have hz'H := Lib.hid hz'
  clear h h' hz hz'
  have W : HB w [(w.heap.size + 1, 25, #[.bool n', .int .u64 a', .int .u64 b', .int .i64 s']), (w.heap.size, 25, #[.bool n, .int .u64 a, .int .u64 b, .int .i64 s])] ((w.alloc (.cells #[.bool n, .int .u64 a, .int .u64 b, .int .i64 s] 25)).alloc (.cells #[.bool n', .int .u64 a', .int .u64 b', .int .i64 s'] 25)) := by
    have h := ((HB.start (Below.refl _ w)).push #[.bool n, .int .u64 a, .int .u64 b, .int .i64 s] 25).push #[.bool n', .int .u64 a', .int .u64 b', .int .i64 s'] 25
    simpa using h
  rcases ht with ⟨hss, rfl⟩ | ⟨hss, rfl⟩
  · go_enter Tryz.func53, Tryz.ntmps53
    go_wp2_with fail
    rw [show max s s' = s' by omega]
    go_wp2_with fail
    refine (bothAt_d n a b s z n' a' b' s' z' s' _ hH.out h'H.out hzH.out hz'H.out h0 h0' hst hst' ht9).mono ?_
    rintro e w3 ⟨_, ⟨x, y, x', y', ⟨hx, hy, ex⟩, ⟨hx', hy', ex'⟩, rfl⟩, rfl, hb⟩
    replace W := W.below hb
    clear hb
    have EX := Lib.hid ex
    have EX' := Lib.hid ex'
    clear ex ex'
    replace W := (W.push #[.int .u64 x, .int .u64 y] 23).push #[.int .u64 x', .int .u64 y'] 23
    simp only [World.size_alloc] at W
    go_wp2_with fail
    refine (cmp_c x y x' y' _ hx hy hx' hy').mono ?_
    rintro e w4 ⟨v, hv, rfl, hb⟩
    replace W := W.below hb
    clear hb
    rw [EX.out, EX'.out] at hv
    obtain rfl : v = .int .i64 _ := hv
    have HB1 := Lib.hid W.1
    clear W
    go_wp2
    go_ret
    exact ⟨_, rfl, rfl, HB1.out⟩
  · go_enter Tryz.func53, Tryz.ntmps53
    go_wp2_with fail
    rw [show max s s' = s by omega]
    go_wp2_with fail
    refine (bothAt_d n a b s z n' a' b' s' z' s _ hH.out h'H.out hzH.out hz'H.out h0 h0' hst hst' ht9).mono ?_
    rintro e w3 ⟨_, ⟨x, y, x', y', ⟨hx, hy, ex⟩, ⟨hx', hy', ex'⟩, rfl⟩, rfl, hb⟩
    replace W := W.below hb
    clear hb
    have EX := Lib.hid ex
    have EX' := Lib.hid ex'
    clear ex ex'
    replace W := (W.push #[.int .u64 x, .int .u64 y] 23).push #[.int .u64 x', .int .u64 y'] 23
    simp only [World.size_alloc] at W
    go_wp2_with fail
    refine (cmp_c x y x' y' _ hx hy hx' hy').mono ?_
    rintro e w4 ⟨v, hv, rfl, hb⟩
    replace W := W.below hb
    clear hb
    rw [EX.out, EX'.out] at hv
    obtain rfl : v = .int .i64 _ := hv
    have HB1 := Lib.hid W.1
    clear W
    go_wp2
    go_ret
    exact ⟨_, rfl, rfl, HB1.out⟩

theorem up_sign (z s t : Int) : (0 < z ∧ zAt z s t = (upN z s t : Int) ∧ 0 < upN z s t) ∨ (z = 0 ∧ zAt z s t = 0 ∧ upN z s t = 0) ∨ (z < 0 ∧ zAt z s t = -(upN z s t : Int) ∧ 0 < upN z s t) := by
  unfold zAt upN
  rw [Int.natCast_mul]
  have hp : 0 < 10 ^ (t - s).toNat := Nat.pow_pos (by decide)
  generalize 10 ^ (t - s).toNat = p at *
  rcases (show 0 < z ∨ z = 0 ∨ z < 0 by omega) with h | h | h
  · left
    refine ⟨h, ?_, Nat.mul_pos (by omega) hp⟩
    rw [show (z.natAbs : Int) = z by omega]
  · right; left
    subst h
    simp
  · right; right
    refine ⟨h, ?_, Nat.mul_pos (by omega) hp⟩
    rw [show (z.natAbs : Int) = -z by omega, Int.neg_mul, Int.neg_neg]
theorem sign_pos {z : Int} (h : 0 < z) : z.sign = 1 := Int.sign_eq_one_of_pos h
theorem sign_neg {z : Int} (h : z < 0) : z.sign = -1 := Int.sign_eq_neg_one_of_neg h
theorem cmpZ_cases (x y : Int) : (x < y ∧ cmpZ x y = -1) ∨ (x = y ∧ cmpZ x y = 0) ∨ (y < x ∧ cmpZ x y = 1) := by
  unfold cmpZ
  rcases (show x < y ∨ x = y ∨ y < x by omega) with h | h | h
  · left; exact ⟨h, by rw [if_neg (by omega), if_pos h]⟩
  · right; left; exact ⟨h, by rw [if_pos h]⟩
  · right; right; exact ⟨h, by rw [if_neg (by omega), if_neg (by omega)]⟩
theorem cmpI_cases (x y : Nat) : (x < y ∧ cmpI x y = -1) ∨ (x = y ∧ cmpI x y = 0) ∨ (y < x ∧ cmpI x y = 1) := by
  unfold cmpI
  rcases (show x < y ∨ x = y ∨ y < x by omega) with h | h | h
  · left; exact ⟨h, by rw [if_neg (by omega), if_pos h]⟩
  · right; left; exact ⟨h, by rw [if_pos h]⟩
  · right; right; exact ⟨h, by rw [if_neg (by omega), if_neg (by omega)]⟩
theorem compareInt_cases (x y : Int) : (x < y ∧ Lib.compareInt x y = -1) ∨ (x = y ∧ Lib.compareInt x y = 0) ∨ (y < x ∧ Lib.compareInt x y = 1) := by
  unfold Lib.compareInt
  rcases (show x < y ∨ x = y ∨ y < x by omega) with h | h | h
  · left; exact ⟨h, by rw [if_pos h]⟩
  · right; left; exact ⟨h, by rw [if_neg (by omega), if_neg (by omega)]⟩
  · right; right; exact ⟨h, by rw [if_neg (by omega), if_pos (by omega)]⟩
theorem cmp_same (z s z' s' t : Int) (h : z.sign = z'.sign) : z.sign * cmpI (upN z s t) (upN z' s' t) = cmpZ (zAt z s t) (zAt z' s' t) := by
  have c1 := cmpI_cases (upN z s t) (upN z' s' t)
  have c2 := cmpZ_cases (zAt z s t) (zAt z' s' t)
  generalize cmpI (upN z s t) (upN z' s' t) = u at *
  generalize cmpZ (zAt z s t) (zAt z' s' t) = v at *
  rcases up_sign z s t with ⟨a, b, c⟩ | ⟨a, b, c⟩ | ⟨a, b, c⟩ <;> rcases up_sign z' s' t with ⟨a', b', c'⟩ | ⟨a', b', c'⟩ | ⟨a', b', c'⟩
  · rw [sign_pos a]; omega
  · rw [sign_pos a, a'] at h; simp at h
  · rw [sign_pos a, sign_neg a'] at h; omega
  · rw [sign_pos a', a] at h; simp at h
  · rw [a]; simp; omega
  · rw [sign_neg a', a] at h; simp at h
  · rw [sign_neg a, sign_pos a'] at h; omega
  · rw [sign_neg a, a'] at h; simp at h
  · rw [sign_neg a]; omega
theorem cmp_diff (z s z' s' t : Int) (h : z.sign ≠ z'.sign) : Lib.compareInt z.sign z'.sign = cmpZ (zAt z s t) (zAt z' s' t) := by
  have c1 := compareInt_cases z.sign z'.sign
  have c2 := cmpZ_cases (zAt z s t) (zAt z' s' t)
  generalize Lib.compareInt z.sign z'.sign = u at *
  generalize cmpZ (zAt z s t) (zAt z' s' t) = v at *
  rcases up_sign z s t with ⟨a, b, c⟩ | ⟨a, b, c⟩ | ⟨a, b, c⟩ <;> rcases up_sign z' s' t with ⟨a', b', c'⟩ | ⟨a', b', c'⟩ | ⟨a', b', c'⟩
  · rw [sign_pos a, sign_pos a'] at h; omega
  · rw [sign_pos a, a', Int.sign_zero] at c1; omega
  · rw [sign_pos a, sign_neg a'] at c1; omega
  · rw [sign_pos a', a, Int.sign_zero] at c1; omega
  · rw [a, a'] at h; omega
  · rw [sign_neg a', a, Int.sign_zero] at c1; omega
  · rw [sign_neg a, sign_pos a'] at c1; omega
  · rw [sign_neg a, a', Int.sign_zero] at c1; omega
  · rw [sign_neg a, sign_neg a'] at h; omega
theorem cmpI_range (m n : Nat) : -1 ≤ cmpI m n ∧ cmpI m n ≤ 1 := by rcases cmpI_cases m n with ⟨_, h⟩ | ⟨_, h⟩ | ⟨_, h⟩ <;> omega
theorem sign_range (z : Int) : -1 ≤ z.sign ∧ z.sign ≤ 1 := by
  rcases (show 0 < z ∨ z = 0 ∨ z < 0 by omega) with h | h | h
  · rw [sign_pos h]; omega
  · rw [h]; simp
  · rw [sign_neg h]; omega
theorem sign_wrap (z : Int) (m n : Nat) : IntKind.i64.wrap (z.sign * cmpI m n) = z.sign * cmpI m n := by
  have h1 := sign_range z
  have h2 := cmpI_range m n
  generalize z.sign = x at *
  generalize cmpI m n = y at *
  rcases (show x = -1 ∨ x = 0 ∨ x = 1 by omega) with rfl | rfl | rfl <;> exact IntWalk.i64_in _ (by omega)
theorem dec_same {n : Bool} {a b z z' : Int} (h : DecIs n a b z) (h' : DecIs n a b z') : z = z' := by
  obtain ⟨e1, _, _, e2⟩ := h
  obtain ⟨e3, _, _, e4⟩ := h'
  rw [e1] at e3
  have : z < 0 ↔ z' < 0 := by simpa using e3
  omega

set_option maxRecDepth 100000 in
set_option maxHeartbeats 1600000 in
theorem cmpD_eq (n : Bool) (a b s z z' t : Int) (w : World) (h : DecIs n a b z) (h' : DecIs n a b z') (hz : Sm z) (hz' : Sm z') (h0 : 0 ≤ s) (_h0' : 0 ≤ s) (h9 : s ≤ 9) (_h9' : s ≤ 9) (_ht : (s < s ∧ s = t) ∨ (s ≤ s ∧ s = t)) :
    Calls Tryz.prog 24 #[.agg #[.bool n, .int .u64 a, .int .u64 b, .int .i64 s], .agg #[.bool n, .int .u64 a, .int .u64 b, .int .i64 s]] w (Ret w (IsInt (cmpZ (zAt z s t) (zAt z' s t)))) := by
  have W : HB w [(w.heap.size + 1, 25, #[.bool n, .int .u64 a, .int .u64 b, .int .i64 s]), (w.heap.size, 25, #[.bool n, .int .u64 a, .int .u64 b, .int .i64 s])] ((w.alloc (.cells #[.bool n, .int .u64 a, .int .u64 b, .int .i64 s] 25)).alloc (.cells #[.bool n, .int .u64 a, .int .u64 b, .int .i64 s] 25)) := by
    have h := ((HB.start (Below.refl _ w)).push #[.bool n, .int .u64 a, .int .u64 b, .int .i64 s] 25).push #[.bool n, .int .u64 a, .int .u64 b, .int .i64 s] 25
    simpa using h
  have ez := dec_same h h'
  subst ez
  have e0 : cmpZ (zAt z s t) (zAt z s t) = 0 := by unfold cmpZ; rw [if_pos rfl]
  rw [e0]
  clear e0
  have hq := eqW2_yes (a := a) (b := b) (c := a) (d := b) ⟨rfl, rfl⟩
  have hH := Lib.hid h
  have h'H := Lib.hid h'
  have hzH := Lib.hid hz
  have hz'H := Lib.hid hz'
  clear h h' hz hz'
  go_enter Tryz.func24, Tryz.ntmps24
  go_wp2_with fail
  refine (right_d n a b s z _ hH.out (sm_30 hzH.out) h0 h9).mono ?_
  rintro e w1 ⟨_, rfl, rfl, hb⟩
  replace W := W.below hb
  clear hb
  obtain ⟨lq, q0, q1, q2, q3⟩ := HB.dec (t := 25) (g := w.heap.size + 1) (a := .bool n) (b := .int .u64 a) (c := .int .u64 b) (d := .int .i64 s) W (by simp)
  go_wp2_with fail
  refine (right_d n a b s z _ hH.out (sm_30 hzH.out) h0 h9).mono ?_
  rintro e w2 ⟨_, rfl, rfl, hb⟩
  replace W := W.below hb
  clear hb lq q0 q1 q2 q3
  obtain ⟨lp, p0, p1, p2, p3⟩ := HB.dec (t := 25) (g := w.heap.size) (a := .bool n) (b := .int .u64 a) (c := .int .u64 b) (d := .int .i64 s) W (by simp)
  obtain ⟨lq, q0, q1, q2, q3⟩ := HB.dec (t := 25) (g := w.heap.size + 1) (a := .bool n) (b := .int .u64 a) (c := .int .u64 b) (d := .int .i64 s) W (by simp)
  have HB1 := Lib.hid W.1
  clear W
  go_wp2
  go_ret
  exact ⟨_, rfl, rfl, HB1.out⟩

set_option maxRecDepth 100000 in
set_option maxHeartbeats 1600000 in
theorem cmpD_n (n : Bool) (n' : Bool) (a b s z a' b' s' z' t : Int) (w : World) (h : DecIs n a b z) (h' : DecIs n' a' b' z') (hz : Sm z) (hz' : Sm z') (h0 : 0 ≤ s) (h0' : 0 ≤ s') (h9 : s ≤ 9) (h9' : s' ≤ 9) (ht : (s < s' ∧ s' = t) ∨ (s' ≤ s ∧ s = t)) (hk : (n == n') = false) :
    Calls Tryz.prog 24 #[.agg #[.bool n, .int .u64 a, .int .u64 b, .int .i64 s], .agg #[.bool n', .int .u64 a', .int .u64 b', .int .i64 s']] w (Ret w (IsInt (cmpZ (zAt z s t) (zAt z' s' t)))) := by
  have W : HB w [(w.heap.size + 1, 25, #[.bool n', .int .u64 a', .int .u64 b', .int .i64 s']), (w.heap.size, 25, #[.bool n, .int .u64 a, .int .u64 b, .int .i64 s])] ((w.alloc (.cells #[.bool n, .int .u64 a, .int .u64 b, .int .i64 s] 25)).alloc (.cells #[.bool n', .int .u64 a', .int .u64 b', .int .i64 s'] 25)) := by
    have h := ((HB.start (Below.refl _ w)).push #[.bool n, .int .u64 a, .int .u64 b, .int .i64 s] 25).push #[.bool n', .int .u64 a', .int .u64 b', .int .i64 s'] 25
    simpa using h
  have hH := Lib.hid h
  have h'H := Lib.hid h'
  have hzH := Lib.hid hz
  have hz'H := Lib.hid hz'
  clear h h' hz hz'
  by_cases hsg : z.sign = z'.sign
  · have HE := Lib.hid (cmp_same z s z' s' t hsg)
    have g : (z.sign != z'.sign) = false := by simp [hsg]
    have htH := Lib.hid ht
    clear ht hsg
    go_enter Tryz.func24, Tryz.ntmps24
    go_wp2_with fail
    refine (right_d n a b s z _ hH.out (sm_30 hzH.out) h0 h9).mono ?_
    rintro e w1 ⟨_, rfl, rfl, hb⟩
    replace W := W.below hb
    clear hb
    obtain ⟨lq, q0, q1, q2, q3⟩ := HB.dec (t := 25) (g := w.heap.size + 1) (a := .bool n') (b := .int .u64 a') (c := .int .u64 b') (d := .int .i64 s') W (by simp)
    go_wp2_with fail
    refine (right_d n' a' b' s' z' _ h'H.out (sm_30 hz'H.out) h0' h9').mono ?_
    rintro e w2 ⟨_, rfl, rfl, hb⟩
    replace W := W.below hb
    clear hb lq q0 q1 q2 q3
    obtain ⟨lp, p0, p1, p2, p3⟩ := HB.dec (t := 25) (g := w.heap.size) (a := .bool n) (b := .int .u64 a) (c := .int .u64 b) (d := .int .i64 s) W (by simp)
    obtain ⟨lq, q0, q1, q2, q3⟩ := HB.dec (t := 25) (g := w.heap.size + 1) (a := .bool n') (b := .int .u64 a') (c := .int .u64 b') (d := .int .i64 s') W (by simp)
    go_wp2_with fail
    refine (sign_d n a b s z _ hH.out (sm_30 hzH.out) h0 h9).mono ?_
    rintro e w3 ⟨_, rfl, rfl, hb⟩
    replace W := W.below hb
    clear hb lq q0 q1 q2 q3 lp p0 p1 p2 p3
    obtain ⟨lq, q0, q1, q2, q3⟩ := HB.dec (t := 25) (g := w.heap.size + 1) (a := .bool n') (b := .int .u64 a') (c := .int .u64 b') (d := .int .i64 s') W (by simp)
    go_wp2_with fail
    refine (sign_d n' a' b' s' z' _ h'H.out (sm_30 hz'H.out) h0' h9').mono ?_
    rintro e w4 ⟨_, rfl, rfl, hb⟩
    replace W := W.below hb
    clear hb lq q0 q1 q2 q3
    obtain ⟨lp, p0, p1, p2, p3⟩ := HB.dec (t := 25) (g := w.heap.size) (a := .bool n) (b := .int .u64 a) (c := .int .u64 b) (d := .int .i64 s) W (by simp)
    obtain ⟨lq, q0, q1, q2, q3⟩ := HB.dec (t := 25) (g := w.heap.size + 1) (a := .bool n') (b := .int .u64 a') (c := .int .u64 b') (d := .int .i64 s') W (by simp)
    go_wp2_with fail
    refine (cmpSize_d n a b s z n' a' b' s' z' t _ hH.out h'H.out hzH.out hz'H.out h0 h0' h9 h9' htH.out).mono ?_
    rintro e w5 ⟨_, rfl, rfl, hb⟩
    replace W := W.below hb
    clear hb lq q0 q1 q2 q3 lp p0 p1 p2 p3
    have HB1 := Lib.hid W.1
    clear W
    have hw := sign_wrap z (upN z s t) (upN z' s' t)
    go_wp2
    go_ret
    exact ⟨_, ret_at HE.out.symm, rfl, HB1.out⟩
  · have HE := Lib.hid (cmp_diff z s z' s' t hsg)
    have g : (z.sign != z'.sign) = true := by simp [hsg]
    have htH := Lib.hid ht
    clear ht hsg
    go_enter Tryz.func24, Tryz.ntmps24
    go_wp2_with fail
    refine (right_d n a b s z _ hH.out (sm_30 hzH.out) h0 h9).mono ?_
    rintro e w1 ⟨_, rfl, rfl, hb⟩
    replace W := W.below hb
    clear hb
    obtain ⟨lq, q0, q1, q2, q3⟩ := HB.dec (t := 25) (g := w.heap.size + 1) (a := .bool n') (b := .int .u64 a') (c := .int .u64 b') (d := .int .i64 s') W (by simp)
    go_wp2_with fail
    refine (right_d n' a' b' s' z' _ h'H.out (sm_30 hz'H.out) h0' h9').mono ?_
    rintro e w2 ⟨_, rfl, rfl, hb⟩
    replace W := W.below hb
    clear hb lq q0 q1 q2 q3
    obtain ⟨lp, p0, p1, p2, p3⟩ := HB.dec (t := 25) (g := w.heap.size) (a := .bool n) (b := .int .u64 a) (c := .int .u64 b) (d := .int .i64 s) W (by simp)
    obtain ⟨lq, q0, q1, q2, q3⟩ := HB.dec (t := 25) (g := w.heap.size + 1) (a := .bool n') (b := .int .u64 a') (c := .int .u64 b') (d := .int .i64 s') W (by simp)
    go_wp2_with fail
    refine (sign_d n a b s z _ hH.out (sm_30 hzH.out) h0 h9).mono ?_
    rintro e w3 ⟨_, rfl, rfl, hb⟩
    replace W := W.below hb
    clear hb lq q0 q1 q2 q3 lp p0 p1 p2 p3
    obtain ⟨lq, q0, q1, q2, q3⟩ := HB.dec (t := 25) (g := w.heap.size + 1) (a := .bool n') (b := .int .u64 a') (c := .int .u64 b') (d := .int .i64 s') W (by simp)
    go_wp2_with fail
    refine (sign_d n' a' b' s' z' _ h'H.out (sm_30 hz'H.out) h0' h9').mono ?_
    rintro e w4 ⟨_, rfl, rfl, hb⟩
    replace W := W.below hb
    clear hb lq q0 q1 q2 q3
    obtain ⟨lp, p0, p1, p2, p3⟩ := HB.dec (t := 25) (g := w.heap.size) (a := .bool n) (b := .int .u64 a) (c := .int .u64 b) (d := .int .i64 s) W (by simp)
    obtain ⟨lq, q0, q1, q2, q3⟩ := HB.dec (t := 25) (g := w.heap.size + 1) (a := .bool n') (b := .int .u64 a') (c := .int .u64 b') (d := .int .i64 s') W (by simp)
    go_wp2_with fail
    refine (compare_c z.sign z'.sign _).mono ?_
    rintro e w5 ⟨rfl, rfl⟩
    have HB1 := Lib.hid W.1
    clear W
    go_wp2
    go_ret
    exact ⟨_, ret_at HE.out.symm, rfl, HB1.out⟩

set_option maxRecDepth 100000 in
set_option maxHeartbeats 1600000 in
theorem cmpD_c (n : Bool) (a b s z a' b' s' z' t : Int) (w : World) (h : DecIs n a b z) (h' : DecIs n a' b' z') (hz : Sm z) (hz' : Sm z') (h0 : 0 ≤ s) (h0' : 0 ≤ s') (h9 : s ≤ 9) (h9' : s' ≤ 9) (ht : (s < s' ∧ s' = t) ∨ (s' ≤ s ∧ s = t)) (hk : eqW2 a b a' b' = false) :
    Calls Tryz.prog 24 #[.agg #[.bool n, .int .u64 a, .int .u64 b, .int .i64 s], .agg #[.bool n, .int .u64 a', .int .u64 b', .int .i64 s']] w (Ret w (IsInt (cmpZ (zAt z s t) (zAt z' s' t)))) := by
  have W : HB w [(w.heap.size + 1, 25, #[.bool n, .int .u64 a', .int .u64 b', .int .i64 s']), (w.heap.size, 25, #[.bool n, .int .u64 a, .int .u64 b, .int .i64 s])] ((w.alloc (.cells #[.bool n, .int .u64 a, .int .u64 b, .int .i64 s] 25)).alloc (.cells #[.bool n, .int .u64 a', .int .u64 b', .int .i64 s'] 25)) := by
    have h := ((HB.start (Below.refl _ w)).push #[.bool n, .int .u64 a, .int .u64 b, .int .i64 s] 25).push #[.bool n, .int .u64 a', .int .u64 b', .int .i64 s'] 25
    simpa using h
  have hH := Lib.hid h
  have h'H := Lib.hid h'
  have hzH := Lib.hid hz
  have hz'H := Lib.hid hz'
  clear h h' hz hz'
  by_cases hsg : z.sign = z'.sign
  · have HE := Lib.hid (cmp_same z s z' s' t hsg)
    have g : (z.sign != z'.sign) = false := by simp [hsg]
    have htH := Lib.hid ht
    clear ht hsg
    go_enter Tryz.func24, Tryz.ntmps24
    go_wp2_with fail
    refine (right_d n a b s z _ hH.out (sm_30 hzH.out) h0 h9).mono ?_
    rintro e w1 ⟨_, rfl, rfl, hb⟩
    replace W := W.below hb
    clear hb
    obtain ⟨lq, q0, q1, q2, q3⟩ := HB.dec (t := 25) (g := w.heap.size + 1) (a := .bool n) (b := .int .u64 a') (c := .int .u64 b') (d := .int .i64 s') W (by simp)
    go_wp2_with fail
    refine (right_d n a' b' s' z' _ h'H.out (sm_30 hz'H.out) h0' h9').mono ?_
    rintro e w2 ⟨_, rfl, rfl, hb⟩
    replace W := W.below hb
    clear hb lq q0 q1 q2 q3
    obtain ⟨lp, p0, p1, p2, p3⟩ := HB.dec (t := 25) (g := w.heap.size) (a := .bool n) (b := .int .u64 a) (c := .int .u64 b) (d := .int .i64 s) W (by simp)
    obtain ⟨lq, q0, q1, q2, q3⟩ := HB.dec (t := 25) (g := w.heap.size + 1) (a := .bool n) (b := .int .u64 a') (c := .int .u64 b') (d := .int .i64 s') W (by simp)
    go_wp2_with fail
    refine (sign_d n a b s z _ hH.out (sm_30 hzH.out) h0 h9).mono ?_
    rintro e w3 ⟨_, rfl, rfl, hb⟩
    replace W := W.below hb
    clear hb lq q0 q1 q2 q3 lp p0 p1 p2 p3
    obtain ⟨lq, q0, q1, q2, q3⟩ := HB.dec (t := 25) (g := w.heap.size + 1) (a := .bool n) (b := .int .u64 a') (c := .int .u64 b') (d := .int .i64 s') W (by simp)
    go_wp2_with fail
    refine (sign_d n a' b' s' z' _ h'H.out (sm_30 hz'H.out) h0' h9').mono ?_
    rintro e w4 ⟨_, rfl, rfl, hb⟩
    replace W := W.below hb
    clear hb lq q0 q1 q2 q3
    obtain ⟨lp, p0, p1, p2, p3⟩ := HB.dec (t := 25) (g := w.heap.size) (a := .bool n) (b := .int .u64 a) (c := .int .u64 b) (d := .int .i64 s) W (by simp)
    obtain ⟨lq, q0, q1, q2, q3⟩ := HB.dec (t := 25) (g := w.heap.size + 1) (a := .bool n) (b := .int .u64 a') (c := .int .u64 b') (d := .int .i64 s') W (by simp)
    go_wp2_with fail
    refine (cmpSize_d n a b s z n a' b' s' z' t _ hH.out h'H.out hzH.out hz'H.out h0 h0' h9 h9' htH.out).mono ?_
    rintro e w5 ⟨_, rfl, rfl, hb⟩
    replace W := W.below hb
    clear hb lq q0 q1 q2 q3 lp p0 p1 p2 p3
    have HB1 := Lib.hid W.1
    clear W
    have hw := sign_wrap z (upN z s t) (upN z' s' t)
    go_wp2
    go_ret
    exact ⟨_, ret_at HE.out.symm, rfl, HB1.out⟩
  · have HE := Lib.hid (cmp_diff z s z' s' t hsg)
    have g : (z.sign != z'.sign) = true := by simp [hsg]
    have htH := Lib.hid ht
    clear ht hsg
    go_enter Tryz.func24, Tryz.ntmps24
    go_wp2_with fail
    refine (right_d n a b s z _ hH.out (sm_30 hzH.out) h0 h9).mono ?_
    rintro e w1 ⟨_, rfl, rfl, hb⟩
    replace W := W.below hb
    clear hb
    obtain ⟨lq, q0, q1, q2, q3⟩ := HB.dec (t := 25) (g := w.heap.size + 1) (a := .bool n) (b := .int .u64 a') (c := .int .u64 b') (d := .int .i64 s') W (by simp)
    go_wp2_with fail
    refine (right_d n a' b' s' z' _ h'H.out (sm_30 hz'H.out) h0' h9').mono ?_
    rintro e w2 ⟨_, rfl, rfl, hb⟩
    replace W := W.below hb
    clear hb lq q0 q1 q2 q3
    obtain ⟨lp, p0, p1, p2, p3⟩ := HB.dec (t := 25) (g := w.heap.size) (a := .bool n) (b := .int .u64 a) (c := .int .u64 b) (d := .int .i64 s) W (by simp)
    obtain ⟨lq, q0, q1, q2, q3⟩ := HB.dec (t := 25) (g := w.heap.size + 1) (a := .bool n) (b := .int .u64 a') (c := .int .u64 b') (d := .int .i64 s') W (by simp)
    go_wp2_with fail
    refine (sign_d n a b s z _ hH.out (sm_30 hzH.out) h0 h9).mono ?_
    rintro e w3 ⟨_, rfl, rfl, hb⟩
    replace W := W.below hb
    clear hb lq q0 q1 q2 q3 lp p0 p1 p2 p3
    obtain ⟨lq, q0, q1, q2, q3⟩ := HB.dec (t := 25) (g := w.heap.size + 1) (a := .bool n) (b := .int .u64 a') (c := .int .u64 b') (d := .int .i64 s') W (by simp)
    go_wp2_with fail
    refine (sign_d n a' b' s' z' _ h'H.out (sm_30 hz'H.out) h0' h9').mono ?_
    rintro e w4 ⟨_, rfl, rfl, hb⟩
    replace W := W.below hb
    clear hb lq q0 q1 q2 q3
    obtain ⟨lp, p0, p1, p2, p3⟩ := HB.dec (t := 25) (g := w.heap.size) (a := .bool n) (b := .int .u64 a) (c := .int .u64 b) (d := .int .i64 s) W (by simp)
    obtain ⟨lq, q0, q1, q2, q3⟩ := HB.dec (t := 25) (g := w.heap.size + 1) (a := .bool n) (b := .int .u64 a') (c := .int .u64 b') (d := .int .i64 s') W (by simp)
    go_wp2_with fail
    refine (compare_c z.sign z'.sign _).mono ?_
    rintro e w5 ⟨rfl, rfl⟩
    have HB1 := Lib.hid W.1
    clear W
    go_wp2
    go_ret
    exact ⟨_, ret_at HE.out.symm, rfl, HB1.out⟩

set_option maxRecDepth 100000 in
set_option maxHeartbeats 1600000 in
theorem cmpD_s (n : Bool) (a b s z s' z' t : Int) (w : World) (h : DecIs n a b z) (h' : DecIs n a b z') (hz : Sm z) (hz' : Sm z') (h0 : 0 ≤ s) (h0' : 0 ≤ s') (h9 : s ≤ 9) (h9' : s' ≤ 9) (ht : (s < s' ∧ s' = t) ∨ (s' ≤ s ∧ s = t)) (hk : (s == s') = false) :
    Calls Tryz.prog 24 #[.agg #[.bool n, .int .u64 a, .int .u64 b, .int .i64 s], .agg #[.bool n, .int .u64 a, .int .u64 b, .int .i64 s']] w (Ret w (IsInt (cmpZ (zAt z s t) (zAt z' s' t)))) := by
  have W : HB w [(w.heap.size + 1, 25, #[.bool n, .int .u64 a, .int .u64 b, .int .i64 s']), (w.heap.size, 25, #[.bool n, .int .u64 a, .int .u64 b, .int .i64 s])] ((w.alloc (.cells #[.bool n, .int .u64 a, .int .u64 b, .int .i64 s] 25)).alloc (.cells #[.bool n, .int .u64 a, .int .u64 b, .int .i64 s'] 25)) := by
    have h := ((HB.start (Below.refl _ w)).push #[.bool n, .int .u64 a, .int .u64 b, .int .i64 s] 25).push #[.bool n, .int .u64 a, .int .u64 b, .int .i64 s'] 25
    simpa using h
  have hq := eqW2_yes (a := a) (b := b) (c := a) (d := b) ⟨rfl, rfl⟩
  have hH := Lib.hid h
  have h'H := Lib.hid h'
  have hzH := Lib.hid hz
  have hz'H := Lib.hid hz'
  clear h h' hz hz'
  by_cases hsg : z.sign = z'.sign
  · have HE := Lib.hid (cmp_same z s z' s' t hsg)
    have g : (z.sign != z'.sign) = false := by simp [hsg]
    have htH := Lib.hid ht
    clear ht hsg
    go_enter Tryz.func24, Tryz.ntmps24
    go_wp2_with fail
    refine (right_d n a b s z _ hH.out (sm_30 hzH.out) h0 h9).mono ?_
    rintro e w1 ⟨_, rfl, rfl, hb⟩
    replace W := W.below hb
    clear hb
    obtain ⟨lq, q0, q1, q2, q3⟩ := HB.dec (t := 25) (g := w.heap.size + 1) (a := .bool n) (b := .int .u64 a) (c := .int .u64 b) (d := .int .i64 s') W (by simp)
    go_wp2_with fail
    refine (right_d n a b s' z' _ h'H.out (sm_30 hz'H.out) h0' h9').mono ?_
    rintro e w2 ⟨_, rfl, rfl, hb⟩
    replace W := W.below hb
    clear hb lq q0 q1 q2 q3
    obtain ⟨lp, p0, p1, p2, p3⟩ := HB.dec (t := 25) (g := w.heap.size) (a := .bool n) (b := .int .u64 a) (c := .int .u64 b) (d := .int .i64 s) W (by simp)
    obtain ⟨lq, q0, q1, q2, q3⟩ := HB.dec (t := 25) (g := w.heap.size + 1) (a := .bool n) (b := .int .u64 a) (c := .int .u64 b) (d := .int .i64 s') W (by simp)
    go_wp2_with fail
    refine (sign_d n a b s z _ hH.out (sm_30 hzH.out) h0 h9).mono ?_
    rintro e w3 ⟨_, rfl, rfl, hb⟩
    replace W := W.below hb
    clear hb lq q0 q1 q2 q3 lp p0 p1 p2 p3
    obtain ⟨lq, q0, q1, q2, q3⟩ := HB.dec (t := 25) (g := w.heap.size + 1) (a := .bool n) (b := .int .u64 a) (c := .int .u64 b) (d := .int .i64 s') W (by simp)
    go_wp2_with fail
    refine (sign_d n a b s' z' _ h'H.out (sm_30 hz'H.out) h0' h9').mono ?_
    rintro e w4 ⟨_, rfl, rfl, hb⟩
    replace W := W.below hb
    clear hb lq q0 q1 q2 q3
    obtain ⟨lp, p0, p1, p2, p3⟩ := HB.dec (t := 25) (g := w.heap.size) (a := .bool n) (b := .int .u64 a) (c := .int .u64 b) (d := .int .i64 s) W (by simp)
    obtain ⟨lq, q0, q1, q2, q3⟩ := HB.dec (t := 25) (g := w.heap.size + 1) (a := .bool n) (b := .int .u64 a) (c := .int .u64 b) (d := .int .i64 s') W (by simp)
    go_wp2_with fail
    refine (cmpSize_d n a b s z n a b s' z' t _ hH.out h'H.out hzH.out hz'H.out h0 h0' h9 h9' htH.out).mono ?_
    rintro e w5 ⟨_, rfl, rfl, hb⟩
    replace W := W.below hb
    clear hb lq q0 q1 q2 q3 lp p0 p1 p2 p3
    have HB1 := Lib.hid W.1
    clear W
    have hw := sign_wrap z (upN z s t) (upN z' s' t)
    go_wp2
    go_ret
    exact ⟨_, ret_at HE.out.symm, rfl, HB1.out⟩
  · have HE := Lib.hid (cmp_diff z s z' s' t hsg)
    have g : (z.sign != z'.sign) = true := by simp [hsg]
    have htH := Lib.hid ht
    clear ht hsg
    go_enter Tryz.func24, Tryz.ntmps24
    go_wp2_with fail
    refine (right_d n a b s z _ hH.out (sm_30 hzH.out) h0 h9).mono ?_
    rintro e w1 ⟨_, rfl, rfl, hb⟩
    replace W := W.below hb
    clear hb
    obtain ⟨lq, q0, q1, q2, q3⟩ := HB.dec (t := 25) (g := w.heap.size + 1) (a := .bool n) (b := .int .u64 a) (c := .int .u64 b) (d := .int .i64 s') W (by simp)
    go_wp2_with fail
    refine (right_d n a b s' z' _ h'H.out (sm_30 hz'H.out) h0' h9').mono ?_
    rintro e w2 ⟨_, rfl, rfl, hb⟩
    replace W := W.below hb
    clear hb lq q0 q1 q2 q3
    obtain ⟨lp, p0, p1, p2, p3⟩ := HB.dec (t := 25) (g := w.heap.size) (a := .bool n) (b := .int .u64 a) (c := .int .u64 b) (d := .int .i64 s) W (by simp)
    obtain ⟨lq, q0, q1, q2, q3⟩ := HB.dec (t := 25) (g := w.heap.size + 1) (a := .bool n) (b := .int .u64 a) (c := .int .u64 b) (d := .int .i64 s') W (by simp)
    go_wp2_with fail
    refine (sign_d n a b s z _ hH.out (sm_30 hzH.out) h0 h9).mono ?_
    rintro e w3 ⟨_, rfl, rfl, hb⟩
    replace W := W.below hb
    clear hb lq q0 q1 q2 q3 lp p0 p1 p2 p3
    obtain ⟨lq, q0, q1, q2, q3⟩ := HB.dec (t := 25) (g := w.heap.size + 1) (a := .bool n) (b := .int .u64 a) (c := .int .u64 b) (d := .int .i64 s') W (by simp)
    go_wp2_with fail
    refine (sign_d n a b s' z' _ h'H.out (sm_30 hz'H.out) h0' h9').mono ?_
    rintro e w4 ⟨_, rfl, rfl, hb⟩
    replace W := W.below hb
    clear hb lq q0 q1 q2 q3
    obtain ⟨lp, p0, p1, p2, p3⟩ := HB.dec (t := 25) (g := w.heap.size) (a := .bool n) (b := .int .u64 a) (c := .int .u64 b) (d := .int .i64 s) W (by simp)
    obtain ⟨lq, q0, q1, q2, q3⟩ := HB.dec (t := 25) (g := w.heap.size + 1) (a := .bool n) (b := .int .u64 a) (c := .int .u64 b) (d := .int .i64 s') W (by simp)
    go_wp2_with fail
    refine (compare_c z.sign z'.sign _).mono ?_
    rintro e w5 ⟨rfl, rfl⟩
    have HB1 := Lib.hid W.1
    clear W
    go_wp2
    go_ret
    exact ⟨_, ret_at HE.out.symm, rfl, HB1.out⟩

theorem cmp_d (n : Bool) (a b s z : Int) (n' : Bool) (a' b' s' z' t : Int) (w : World) (h : DecIs n a b z) (h' : DecIs n' a' b' z') (hz : Sm z) (hz' : Sm z') (h0 : 0 ≤ s) (h0' : 0 ≤ s') (h9 : s ≤ 9) (h9' : s' ≤ 9) (ht : (s < s' ∧ s' = t) ∨ (s' ≤ s ∧ s = t)) :
    Calls Tryz.prog 24 #[.agg #[.bool n, .int .u64 a, .int .u64 b, .int .i64 s], .agg #[.bool n', .int .u64 a', .int .u64 b', .int .i64 s']] w (Ret w (IsInt (cmpZ (zAt z s t) (zAt z' s' t)))) := by
  by_cases hn : n = n'
  · subst hn
    by_cases hc : a = a' ∧ b = b'
    · obtain ⟨rfl, rfl⟩ := hc
      by_cases hs : s = s'
      · subst hs
        exact cmpD_eq n a b s z z' t w h h' hz hz' h0 h0' h9 h9' ht
      · exact cmpD_s n a b s z s' z' t w h h' hz hz' h0 h0' h9 h9' ht (by simp [hs])
    · exact cmpD_c n a b s z a' b' s' z' t w h h' hz hz' h0 h0' h9 h9' ht (eqW2_no hc)
  · exact cmpD_n n n' a b s z a' b' s' z' t w h h' hz hz' h0 h0' h9 h9' ht (by cases n <;> cases n' <;> simp_all)

end Go.Proofs.YtlhceelkefgjhaaGreatDoor

/- Package quant: Quant, Times, at any decimals. -/
/- Package quant: Times where digits are lost. -/
/- Package quant: Times where no digit is lost, and as a whole. -/
import Derived.Test.YtkaflkofffgndaaDoorQuantL
namespace Go.Proofs.YtkaflkofffgndaaDoor
open Go.RowKit
theorem ans_eq {V v : Value} (h : Ans V v) : v = V := by
  obtain ⟨m, c, d, q, e, h1, h2⟩ := h
  rw [h1, h2]
theorem right_1 : RightD false 1 0 0 := by
  refine ⟨?_, ?_, ?_, ?_⟩ <;> decide
theorem quant_div (n : Bool) (a b s t m : Int) : divV n a b s false 1 0 0 t m = quantV n a b s t m := by
  unfold divV quantV
  by_cases h : RightD n a b s ∧ GoodM t m
  · rw [if_pos ⟨h.1, right_1, h.2⟩, if_pos h, if_neg (by decide), show v2 1 0 = 1 from by decide, Nat.one_mul, Int.add_zero, Bool.bne_false]
  · rw [if_neg (fun g => h ⟨g.1, g.2.2⟩), if_neg h]
set_option maxRecDepth 100000 in
set_option maxHeartbeats 6400000 in
theorem quant_all (n : Bool) (a b s t m : Int) (w : World) (ha : U64 a) (hb1 : U64 b) :
    Calls Tryd.prog 4 #[.agg #[.bool n, .int .u64 a, .int .u64 b, .int .i64 s], .int .i64 t, .int .i64 m] w (Ret w (Ans (quantV n a b s t m))) := by
  have Q0 := Lib.hid (QS.one w n a b s)
  go_enter Tryd.func4, Tryd.ntmps4
  go_wp2_with fail
  have Qd := Lib.hid Q0.out.drew
  have hne : ∀ b0 ∈ ([(w.heap.size, 27, #[.bool n, .int .u64 a, .int .u64 b, .int .i64 s])] : List (Nat × TypeId × Array Value)), b0.1 ≠ w.heap.size + 1 := by simp
  refine wp_region_ord (S := fun W => HB w [(w.heap.size, 27, #[.bool n, .int .u64 a, .int .u64 b, .int .i64 s])] W) (by kernel_rfl) ?_
  refine ord_take (v := ?_) (i := 0) (fuel := 8) (by simp; rfl) (by kernel_rfl) (by kernel_rfl) (by kernel_rfl) (Or.inl ⟨by rfl, fun w' hSw => ?_⟩) Qd.out.1 ?_
  rotate_left
  · dsimp only at hSw
    obtain ⟨ql, q0, q1, q2, q3⟩ := HB.dec (t := 27) (g := w.heap.size) (a := .bool n) (b := .int .u64 a) (c := .int .u64 b) (d := .int .i64 s) hSw (by simp)
    go_simp
    all_goals with_reducible rfl
  simp only [Act.put, List.setIfInBounds_toArray, List.set_cons_zero, List.set_cons_succ]
  refine ord_take (v := ?_) (i := 2) (fuel := 7) (by simp; rfl) (by kernel_rfl) (by kernel_rfl) (by kernel_rfl) (Or.inl ⟨by rfl, fun w' hSw => ?_⟩) Qd.out.1 ?_
  rotate_left
  · go_simp
    all_goals with_reducible rfl
  simp only [Act.put, List.setIfInBounds_toArray, List.set_cons_zero, List.set_cons_succ]
  refine ord_take (v := ?_) (i := 3) (fuel := 6) (by simp; rfl) (by kernel_rfl) (by kernel_rfl) (by kernel_rfl) (Or.inl ⟨by rfl, fun w' hSw => ?_⟩) Qd.out.1 ?_
  rotate_left
  · go_simp
    all_goals with_reducible rfl
  simp only [Act.put, List.setIfInBounds_toArray, List.set_cons_zero, List.set_cons_succ]
  refine ord_call (f := 5) (args := #[.int .i64 1, .int .i64 0]) (w1 := (((w.alloc (.cells #[.bool n, .int .u64 a, .int .u64 b, .int .i64 s] 27)).alloc (.cells #[.bool false, .int .u64 0, .int .u64 0, .int .i64 0] 27)).drew)) (i := 1) (fuel := 5) (by simp; rfl) (by kernel_rfl) (by rfl) ?_ ?_
  · go_simp
    all_goals with_reducible rfl
  refine (dOf_v 1 0 false 1 0 _ (by decide) (by decide) (by decide) (by decide) (dec_pos (by decide) (by decide))).mono ?_
  rintro e x2 ⟨_, rfl, rfl, hb⟩
  have Q2 := Lib.hid (Qd.out.below hb)
  clear hb
  refine ⟨_, rfl, Q2.out.1, ?_⟩
  simp only [Act.put, List.setIfInBounds_toArray, List.set_cons_zero, List.set_cons_succ]
  refine ord_call (f := 6) (args := #[.agg #[.bool n, .int .u64 a, .int .u64 b, .int .i64 s], .agg #[.bool false, .int .u64 1, .int .u64 0, .int .i64 0], .int .i64 t, .int .i64 m]) (w1 := x2) (i := 4) (fuel := 4) (by simp; rfl) (by kernel_rfl) (by rfl) ?_ ?_
  · go_simp
    all_goals with_reducible rfl
  refine (ans_of (div_all n a b s false 1 0 0 t m _ ha hb1 (by unfold U64; omega) u64_0) (quant_div n a b s t m)).mono ?_
  rintro e x9 ⟨_, ⟨m4, c4, d4, q4, e4, D4, rfl⟩, rfl, hb⟩
  have Q9 := Lib.hid (Q2.out.below hb)
  have HD4 := Lib.hid D4
  clear hb D4
  refine ⟨_, rfl, Q9.out.1, ?_⟩
  simp only [Act.put, List.setIfInBounds_toArray, List.set_cons_zero, List.set_cons_succ]
  refine ord_take (v := ?_) (i := 5) (fuel := 3) (by simp; rfl) (by kernel_rfl) (by kernel_rfl) (by kernel_rfl) (Or.inl ⟨by rfl, fun w' hSw => ?_⟩) Q9.out.1 ?_
  rotate_left
  · go_simp
    all_goals with_reducible rfl
  simp only [Act.put, List.setIfInBounds_toArray, List.set_cons_zero, List.set_cons_succ]
  refine ord_take (v := ?_) (i := 6) (fuel := 2) (by simp; rfl) (by kernel_rfl) (by kernel_rfl) (by kernel_rfl) (Or.inl ⟨by rfl, fun w' hSw => ?_⟩) Q9.out.1 ?_
  rotate_left
  · go_simp
    all_goals with_reducible rfl
  simp only [Act.put, List.setIfInBounds_toArray, List.set_cons_zero, List.set_cons_succ]
  obtain ⟨lz, ⟨z0, z1, z2, z3⟩, y0, y1, y2, y3⟩ := blk_c4 Q9.out.2
  have VS1 := HB.set4 (a' := .bool m4) (b' := .int .u64 c4) (c' := .int .u64 d4) (d' := .int .i64 q4) Q9.out.1 Q9.out.2 (by omega) hne
  have VS := HB.sub (bs' := [(w.heap.size, 27, #[.bool n, .int .u64 a, .int .u64 b, .int .i64 s])]) VS1 (by simp)
  refine ord_skip (w' := ((((x9.setCell ⟨w.heap.size + 1, 0, none⟩ (.bool m4)).setCell ⟨w.heap.size + 1, 1, none⟩ (.int .u64 c4)).setCell ⟨w.heap.size + 1, 2, none⟩ (.int .u64 d4)).setCell ⟨w.heap.size + 1, 3, none⟩ (.int .i64 q4))) (i := 7) (fuel := 1) (by simp; rfl) (by kernel_rfl) (by rfl) (by rfl) ?_ VS ?_
  · go_simp
    all_goals with_reducible rfl
  refine ord_take (v := ?_) (i := 8) (fuel := 0) (by simp; rfl) (by kernel_rfl) (by kernel_rfl) (by kernel_rfl) (Or.inl ⟨by rfl, fun w' hSw => ?_⟩) VS ?_
  rotate_left
  · go_simp
    all_goals with_reducible rfl
  simp only [Act.put, List.setIfInBounds_toArray, List.set_cons_zero, List.set_cons_succ]
  obtain ⟨lt, t0, t1, t2, t3⟩ := HB.dec (t := 27) (g := w.heap.size + 1) (a := .bool m4) (b := .int .u64 c4) (c := .int .u64 d4) (d := .int .i64 q4) VS1 (by simp)
  have HB1 := Lib.hid VS.1
  clear VS VS1 lz z0 z1 z2 z3 y0 y1 y2 y3
  refine ord_done (by kernel_rfl) ?_ _
  go_wp2
  exact bodyPost_ret (v := .tuple #[.agg #[.bool m4, .int .u64 c4, .int .u64 d4, .int .i64 q4], .int .i64 e4]) (by simp [results, Tryd.results4, go_sem, t0, t1, t2, t3]) rfl ⟨_, ⟨_, _, _, _, _, HD4.out, rfl⟩, rfl, HB1.out⟩
set_option maxRecDepth 100000 in
set_option maxHeartbeats 1600000 in
theorem tens_w (k : Int) (w : World) (hlo : -18 ≤ k) (hhi : k ≤ 18) :
    Calls Tryd.prog 15 #[.int .i64 k] w (Ret w (IsTwo (10 ^ k.toNat) (10 ^ (-k).toNat))) := by
  have W : HB w [(w.heap.size + 1, 25, #[.int .u64 0, .int .u64 0]), (w.heap.size, 25, #[.int .u64 0, .int .u64 0])] ((w.alloc (.cells #[.int .u64 0, .int .u64 0] 25)).alloc (.cells #[.int .u64 0, .int .u64 0] 25)) := by
    have h := ((HB.start (Below.refl _ w)).push #[.int .u64 0, .int .u64 0] 25).push #[.int .u64 0, .int .u64 0] 25
    simpa using h
  have hle : w.heap.size ≤ w.heap.size := Nat.le_refl _
  have hle' : w.heap.size ≤ w.heap.size + 1 := by omega
  have hmax : max k 0 = ((k.toNat : Nat) : Int) := by omega
  have hmax' : max (-k) 0 = (((-k).toNat : Nat) : Int) := by omega
  have hwr : IntKind.i64.wrap (-k) = -k := by rw [IntKind.wrap_i64]; omega
  have hA : k.toNat ≤ 18 := by omega
  have hB : (-k).toNat ≤ 18 := by omega
  generalize k.toNat = A at *
  generalize (-k).toNat = B at *
  go_enter Tryd.func15, Tryd.ntmps15
  go_wp2_with fail
  refine (ten_c A _).mono ?_
  rintro e w1 ⟨_, ⟨x, y, p, HT, rfl⟩, rfl, hb⟩
  replace W := W.below hb
  clear hb
  obtain ⟨hx, hy, ex⟩ := ten_all HT (by omega) (by omega)
  have EX := Lib.hid ex
  clear ex HT
  obtain ⟨lp, p0, p1⟩ := HB.two (t := 25) (g := w.heap.size) (a := .int .u64 0) (b := .int .u64 0) W (by simp)
  have Bz := HB.blk (g := w.heap.size) (t := 25) (cs := #[.int .u64 0, .int .u64 0]) W (by simp)
  have fz0 := Bz.frozen 0
  have fz1 := Bz.frozen 1
  clear Bz
  replace W := HB.put2 (g := w.heap.size) (t := 25) (a' := .int .u64 x) (b' := .int .u64 y) (bs' := [(w.heap.size + 1, 25, #[.int .u64 0, .int .u64 0])]) W (a := .int .u64 0) (b := .int .u64 0) (by simp) hle (by simp)
  go_wp2_with fail
  refine (ten_c B _).mono ?_
  rintro e w2 ⟨_, ⟨x', y', p', HT, rfl⟩, rfl, hb⟩
  replace W := W.below hb
  clear hb lp p0 p1 fz0 fz1
  obtain ⟨hx', hy', ex'⟩ := ten_all HT (by omega) (by omega)
  have EX' := Lib.hid ex'
  clear ex' HT
  obtain ⟨lq, q0, q1⟩ := HB.two (t := 25) (g := w.heap.size) (a := .int .u64 x) (b := .int .u64 y) W (by simp)
  obtain ⟨lp, p0, p1⟩ := HB.two (t := 25) (g := w.heap.size + 1) (a := .int .u64 0) (b := .int .u64 0) W (by simp)
  have Bz := HB.blk (g := w.heap.size) (t := 25) (cs := #[.int .u64 x, .int .u64 y]) W (by simp)
  have fz0 := Bz.frozen 0
  have fz1 := Bz.frozen 1
  clear Bz
  have Bz := HB.blk (g := w.heap.size + 1) (t := 25) (cs := #[.int .u64 0, .int .u64 0]) W (by simp)
  have gz0 := Bz.frozen 0
  have gz1 := Bz.frozen 1
  clear Bz
  have HB2 := HB.put2 (g := w.heap.size + 1) (t := 25) (a := .int .u64 0) (b := .int .u64 0) (a' := .int .u64 x') (b' := .int .u64 y') (bs' := [(w.heap.size, 25, #[.int .u64 x, .int .u64 y])]) W (by simp) hle' (by simp)
  have HB3 := HB.put2 (g := w.heap.size) (t := 25) (a := .int .u64 x) (b := .int .u64 y) (a' := .int .u64 x) (b' := .int .u64 y) (bs' := [(w.heap.size + 1, 25, #[.int .u64 x', .int .u64 y'])]) HB2 (by simp) hle (by simp)
  have HB4 := HB.put2 (g := w.heap.size + 1) (t := 25) (a := .int .u64 x') (b := .int .u64 y') (a' := .int .u64 x') (b' := .int .u64 y') (bs' := [(w.heap.size, 25, #[.int .u64 x, .int .u64 y])]) HB3 (by simp) hle' (by simp)
  obtain ⟨lr, r0, r1⟩ := HB.two (t := 25) (g := w.heap.size) (a := .int .u64 x) (b := .int .u64 y) HB4 (by simp)
  obtain ⟨ls, s0, s1⟩ := HB.two (t := 25) (g := w.heap.size + 1) (a := .int .u64 x') (b := .int .u64 y') HB4 (by simp)
  have HB1 := Lib.hid HB4.1
  have R0 := Lib.hid r0
  have R1 := Lib.hid r1
  have S0 := Lib.hid s0
  have S1 := Lib.hid s1
  clear W HB2 HB3 HB4 r0 r1 s0 s1 lr ls
  go_wp2
  go_region
  all_goals
    go_wp2
    refine bodyPost_ret (v := .tuple #[.agg #[.int .u64 x, .int .u64 y], .agg #[.int .u64 x', .int .u64 y']]) (by simp [results, Tryd.results15, go_sem, R0.out, R1.out, S0.out, S1.out]) rfl ⟨_, ⟨_, _, _, _, ⟨hx, hy, EX.out⟩, ⟨hx', hy', EX'.out⟩, rfl⟩, rfl, ?_⟩
    exact HB1.out.drew
end Go.Proofs.YtkaflkofffgndaaDoor

namespace Go.Proofs.YtkaflkofffgndaaDoor
open Go.RowKit
theorem times_dn (n : Bool) (A s s' t : Int) (N : Nat) (m : Int) (h0 : 0 ≤ s) (h0' : 0 ≤ s') (ht : 0 ≤ t) (hl : 0 < s + s' - t) (_hA : A = 0) :
    roundN n (N * 10 ^ t.toNat) (10 ^ (s + s').toNat) m = roundN n N (10 ^ (s + s' - t).toNat) m := by
  have e : 10 ^ (s + s').toNat = 10 ^ (s + s' - t).toNat * 10 ^ t.toNat := by
    rw [← Nat.pow_add]; congr 1; omega
  rw [e, roundN_mul _ _ _ _ _ (Nat.pow_pos (by decide))]
theorem round_1 (n : Bool) (A : Nat) (m : Int) : roundN n A 1 m = A := by
  unfold roundN
  rw [Nat.div_one, Nat.mod_one, if_neg (by simp)]
  rfl
theorem times_up' (n : Bool) (s s' t : Int) (N : Nat) (m : Int) (h0 : 0 ≤ s) (h0' : 0 ≤ s') (_ht : 0 ≤ t) (hl : s + s' - t ≤ 0) :
    roundN n (N * 10 ^ t.toNat) (10 ^ (s + s').toNat) m = N * 10 ^ (t - (s + s')).toNat := by
  have e : 10 ^ t.toNat = 10 ^ (t - (s + s')).toNat * 10 ^ (s + s').toNat := by
    rw [← Nat.pow_add]; congr 1; omega
  have h := roundN_mul n (N * 10 ^ (t - (s + s')).toNat) 1 (10 ^ (s + s').toNat) m (Nat.pow_pos (by decide))
  rw [Nat.one_mul] at h
  rw [e, ← Nat.mul_assoc, h, round_1]
set_option maxRecDepth 100000 in
set_option maxHeartbeats 6400000 in
theorem times_n (n : Bool) (a b s : Int) (n' : Bool) (a' b' s' t m : Int) (w : World) (ha : U64 a) (hb1 : U64 b) (ha' : U64 a') (hb1' : U64 b') (hr : RightD n a b s) (hr' : RightD n' a' b' s') (hg : GoodM t m) (hl : 0 < s + s' - t) :
    Calls Tryd.prog 7 #[.agg #[.bool n, .int .u64 a, .int .u64 b, .int .i64 s], .agg #[.bool n', .int .u64 a', .int .u64 b', .int .i64 s'], .int .i64 t, .int .i64 m] w (Ret w (Ans (timesV n a b s n' a' b' s' t m))) := by
  have Q0 := Lib.hid (QS.two w n a b s n' a' b' s')
  have HR := Lib.hid (decide_eq_true hr)
  have HR' := Lib.hid (decide_eq_true hr')
  have HG := Lib.hid (decide_eq_true hg)
  have HM := Lib.hid hg.modes
  have h0 := hr.2.1
  have h9 := hr.2.2.1
  have h0' := hr'.2.1
  have h9' := hr'.2.2.1
  have ht0 := hg.1
  have ht9 := hg.2.1
  have HV := Lib.hid (show timesV n a b s n' a' b' s' t m = chkV (n != n') (roundN (n != n') (v2 a b * v2 a' b') (10 ^ (s + s' - t).toNat) m) t by
    unfold timesV
    rw [if_pos ⟨hr, hr', hg⟩, times_dn _ 0 s s' t _ m h0 h0' ht0 hl rfl])
  rw [HV.out]
  have hwn : wrap64 (-(s + s' - t)) = -(s + s' - t) := by unfold wrap64; omega
  have hws : wrap64 (s + s') = s + s' := by unfold wrap64; omega
  have hwt : wrap64 (s + s' - t) = s + s' - t := by unfold wrap64; omega
  obtain ⟨L, hL⟩ : ∃ L, s + s' - t = L := ⟨_, rfl⟩
  rw [hL] at hwn hwt hl
  rw [hL]
  have RT := Lib.hid (fun w' => tens_w (-L) w' (by omega) (by omega))
  obtain ⟨P, hP⟩ : ∃ P, 10 ^ L.toNat = P := ⟨_, rfl⟩
  have HPP := Lib.hid (show 0 < P by rw [← hP]; exact Nat.pow_pos (by decide))
  rw [show (-(-L)) = L by omega, hP] at RT
  obtain ⟨O, hO⟩ : ∃ O, 10 ^ (-L).toNat = O := ⟨_, rfl⟩
  rw [hO] at RT
  rw [hP]
  clear hr hr' hg hP hO
  go_enter Tryd.func7, Tryd.ntmps7
  go_wp2_with fail
  refine (right_c n a b s _ ha hb1).mono ?_
  rintro e w1 ⟨_, rfl, rfl, hb⟩
  rw [HR.out]
  have Q1 := Lib.hid (Q0.out.below hb)
  clear hb
  obtain ⟨lq, q0, q1, q2, q3⟩ := HB.dec (t := 27) (g := w.heap.size + 1) (a := .bool n') (b := .int .u64 a') (c := .int .u64 b') (d := .int .i64 s') Q1.out.1 (by simp)
  go_wp2_with fail
  refine (right_c n' a' b' s' _ ha' hb1').mono ?_
  rintro e w2 ⟨_, rfl, rfl, hb⟩
  rw [HR'.out]
  have Q2 := Lib.hid (Q1.out.below hb)
  clear hb lq q0 q1 q2 q3
  go_wp2_with fail
  refine (qknown_all t m _).mono ?_
  rintro e w' ⟨rfl, rfl⟩
  rw [HG.out]
  obtain ⟨lp, p0, p1, p2, p3⟩ := HB.dec (t := 27) (g := w.heap.size) (a := .bool n) (b := .int .u64 a) (c := .int .u64 b) (d := .int .i64 s) Q2.out.1 (by simp)
  obtain ⟨lq, q0, q1, q2, q3⟩ := HB.dec (t := 27) (g := w.heap.size + 1) (a := .bool n') (b := .int .u64 a') (c := .int .u64 b') (d := .int .i64 s') Q2.out.1 (by simp)
  go_wp2_with fail
  refine (RT.out _).mono ?_
  rintro e w4 ⟨_, ⟨o0, o1, v0, v1, ⟨ho0, ho1, eo⟩, ⟨hv0, hv1, ev⟩, rfl⟩, rfl, hb⟩
  have q4 := ((Q2.out.below hb).push #[.int .u64 o0, .int .u64 o1] 25).push #[.int .u64 v0, .int .u64 v1] 25
  simp only [World.size_alloc] at q4
  have EV := Lib.hid ev
  have hlt4 := (Q2.out.below hb).2.lt
  obtain ⟨go, hgo⟩ : ∃ g, w4.heap.size = g := ⟨_, rfl⟩
  rw [hgo] at q4 hlt4
  obtain ⟨W4, hW4⟩ : ∃ x, (w4.alloc (.cells #[.int .u64 o0, .int .u64 o1] 25)).alloc (.cells #[.int .u64 v0, .int .u64 v1] 25) = x := ⟨_, rfl⟩
  rw [hW4] at q4
  have Q4 := Lib.hid q4
  have hne : ∀ b0 ∈ ([(go + 1, 25, #[.int .u64 v0, .int .u64 v1]), (go, 25, #[.int .u64 o0, .int .u64 o1]), (w.heap.size + 1, 27, #[.bool n', .int .u64 a', .int .u64 b', .int .i64 s']), (w.heap.size, 27, #[.bool n, .int .u64 a, .int .u64 b, .int .i64 s])] : List (Nat × TypeId × Array Value)), b0.1 ≠ w.heap.size + 1 + 1 := by intro b0 hb0; simp at hb0; rcases hb0 with rfl | rfl | rfl | rfl <;> simp <;> omega
  clear hb lp p0 p1 p2 p3 lq q0 q1 q2 q3 eo ev q4 Q2
  go_wp2_with fail
  have Qd := Lib.hid Q4.out.drew
  clear hgo hW4
  refine wp_region_ord (S := fun W => HB w [(go + 1, 25, #[.int .u64 v0, .int .u64 v1]), (go, 25, #[.int .u64 o0, .int .u64 o1]), (w.heap.size + 1, 27, #[.bool n', .int .u64 a', .int .u64 b', .int .i64 s']), (w.heap.size, 27, #[.bool n, .int .u64 a, .int .u64 b, .int .i64 s])] W) (by kernel_rfl) ?_
  refine ord_take (v := ?_) (i := 0) (fuel := 17) (by simp; rfl) (by kernel_rfl) (by kernel_rfl) (by kernel_rfl) (Or.inl ⟨by rfl, fun w' hSw => ?_⟩) Qd.out.1 ?_
  rotate_left
  · go_simp
    all_goals with_reducible rfl
  simp only [Act.put, List.setIfInBounds_toArray, List.set_cons_zero, List.set_cons_succ]
  refine ord_take (v := ?_) (i := 2) (fuel := 16) (by simp; rfl) (by kernel_rfl) (by kernel_rfl) (by kernel_rfl) (Or.inl ⟨by rfl, fun w' hSw => ?_⟩) Qd.out.1 ?_
  rotate_left
  · go_simp
    all_goals with_reducible rfl
  simp only [Act.put, List.setIfInBounds_toArray, List.set_cons_zero, List.set_cons_succ]
  refine ord_take (v := ?_) (i := 5) (fuel := 15) (by simp; rfl) (by kernel_rfl) (by kernel_rfl) (by kernel_rfl) (Or.inl ⟨by rfl, fun w' hSw => ?_⟩) Qd.out.1 ?_
  rotate_left
  · go_simp
    all_goals with_reducible rfl
  simp only [Act.put, List.setIfInBounds_toArray, List.set_cons_zero, List.set_cons_succ]
  refine ord_take (v := ?_) (i := 7) (fuel := 14) (by simp; rfl) (by kernel_rfl) (by kernel_rfl) (by kernel_rfl) (Or.inl ⟨by rfl, fun w' hSw => ?_⟩) Qd.out.1 ?_
  rotate_left
  · go_simp
    all_goals with_reducible rfl
  simp only [Act.put, List.setIfInBounds_toArray, List.set_cons_zero, List.set_cons_succ]
  refine ord_take (v := ?_) (i := 11) (fuel := 13) (by simp; rfl) (by kernel_rfl) (by kernel_rfl) (by kernel_rfl) (Or.inl ⟨by rfl, fun w' hSw => ?_⟩) Qd.out.1 ?_
  rotate_left
  · go_simp
    all_goals with_reducible rfl
  simp only [Act.put, List.setIfInBounds_toArray, List.set_cons_zero, List.set_cons_succ]
  refine ord_take (v := ?_) (i := 12) (fuel := 12) (by simp; rfl) (by kernel_rfl) (by kernel_rfl) (by kernel_rfl) (Or.inl ⟨by rfl, fun w' hSw => ?_⟩) Qd.out.1 ?_
  rotate_left
  · go_simp
    all_goals with_reducible rfl
  simp only [Act.put, List.setIfInBounds_toArray, List.set_cons_zero, List.set_cons_succ]
  refine ord_take (v := ?_) (i := 1) (fuel := 11) (by simp; rfl) (by kernel_rfl) (by kernel_rfl) (by kernel_rfl) (Or.inl ⟨by rfl, fun w' hSw => ?_⟩) Qd.out.1 ?_
  rotate_left
  · dsimp only at hSw
    obtain ⟨pl, p0, p1, p2, p3⟩ := HB.dec (t := 27) (g := w.heap.size) (a := .bool n) (b := .int .u64 a) (c := .int .u64 b) (d := .int .i64 s) hSw (by simp)
    obtain ⟨ql, q0, q1, q2, q3⟩ := HB.dec (t := 27) (g := w.heap.size + 1) (a := .bool n') (b := .int .u64 a') (c := .int .u64 b') (d := .int .i64 s') hSw (by simp)
    obtain ⟨fl, ff0, ff1⟩ := HB.two (t := 25) (g := go + 1) (a := .int .u64 v0) (b := .int .u64 v1) hSw (by simp)
    go_simp
    all_goals with_reducible rfl
  simp only [Act.put, List.setIfInBounds_toArray, List.set_cons_zero, List.set_cons_succ]
  refine ord_take (v := ?_) (i := 3) (fuel := 10) (by simp; rfl) (by kernel_rfl) (by kernel_rfl) (by kernel_rfl) (Or.inl ⟨by rfl, fun w' hSw => ?_⟩) Qd.out.1 ?_
  rotate_left
  · dsimp only at hSw
    obtain ⟨pl, p0, p1, p2, p3⟩ := HB.dec (t := 27) (g := w.heap.size) (a := .bool n) (b := .int .u64 a) (c := .int .u64 b) (d := .int .i64 s) hSw (by simp)
    obtain ⟨ql, q0, q1, q2, q3⟩ := HB.dec (t := 27) (g := w.heap.size + 1) (a := .bool n') (b := .int .u64 a') (c := .int .u64 b') (d := .int .i64 s') hSw (by simp)
    obtain ⟨fl, ff0, ff1⟩ := HB.two (t := 25) (g := go + 1) (a := .int .u64 v0) (b := .int .u64 v1) hSw (by simp)
    go_simp
    all_goals with_reducible rfl
  simp only [Act.put, List.setIfInBounds_toArray, List.set_cons_zero, List.set_cons_succ]
  refine ord_take (v := ?_) (i := 6) (fuel := 9) (by simp; rfl) (by kernel_rfl) (by kernel_rfl) (by kernel_rfl) (Or.inl ⟨by rfl, fun w' hSw => ?_⟩) Qd.out.1 ?_
  rotate_left
  · dsimp only at hSw
    obtain ⟨pl, p0, p1, p2, p3⟩ := HB.dec (t := 27) (g := w.heap.size) (a := .bool n) (b := .int .u64 a) (c := .int .u64 b) (d := .int .i64 s) hSw (by simp)
    obtain ⟨ql, q0, q1, q2, q3⟩ := HB.dec (t := 27) (g := w.heap.size + 1) (a := .bool n') (b := .int .u64 a') (c := .int .u64 b') (d := .int .i64 s') hSw (by simp)
    obtain ⟨fl, ff0, ff1⟩ := HB.two (t := 25) (g := go + 1) (a := .int .u64 v0) (b := .int .u64 v1) hSw (by simp)
    go_simp
    all_goals with_reducible rfl
  simp only [Act.put, List.setIfInBounds_toArray, List.set_cons_zero, List.set_cons_succ]
  refine ord_take (v := ?_) (i := 8) (fuel := 8) (by simp; rfl) (by kernel_rfl) (by kernel_rfl) (by kernel_rfl) (Or.inl ⟨by rfl, fun w' hSw => ?_⟩) Qd.out.1 ?_
  rotate_left
  · dsimp only at hSw
    obtain ⟨pl, p0, p1, p2, p3⟩ := HB.dec (t := 27) (g := w.heap.size) (a := .bool n) (b := .int .u64 a) (c := .int .u64 b) (d := .int .i64 s) hSw (by simp)
    obtain ⟨ql, q0, q1, q2, q3⟩ := HB.dec (t := 27) (g := w.heap.size + 1) (a := .bool n') (b := .int .u64 a') (c := .int .u64 b') (d := .int .i64 s') hSw (by simp)
    obtain ⟨fl, ff0, ff1⟩ := HB.two (t := 25) (g := go + 1) (a := .int .u64 v0) (b := .int .u64 v1) hSw (by simp)
    go_simp
    all_goals with_reducible rfl
  simp only [Act.put, List.setIfInBounds_toArray, List.set_cons_zero, List.set_cons_succ]
  refine ord_take (v := ?_) (i := 10) (fuel := 7) (by simp; rfl) (by kernel_rfl) (by kernel_rfl) (by kernel_rfl) (Or.inl ⟨by rfl, fun w' hSw => ?_⟩) Qd.out.1 ?_
  rotate_left
  · dsimp only at hSw
    obtain ⟨pl, p0, p1, p2, p3⟩ := HB.dec (t := 27) (g := w.heap.size) (a := .bool n) (b := .int .u64 a) (c := .int .u64 b) (d := .int .i64 s) hSw (by simp)
    obtain ⟨ql, q0, q1, q2, q3⟩ := HB.dec (t := 27) (g := w.heap.size + 1) (a := .bool n') (b := .int .u64 a') (c := .int .u64 b') (d := .int .i64 s') hSw (by simp)
    obtain ⟨fl, ff0, ff1⟩ := HB.two (t := 25) (g := go + 1) (a := .int .u64 v0) (b := .int .u64 v1) hSw (by simp)
    go_simp
    all_goals with_reducible rfl
  simp only [Act.put, List.setIfInBounds_toArray, List.set_cons_zero, List.set_cons_succ]
  refine ord_take (v := ?_) (i := 4) (fuel := 6) (by simp; rfl) (by kernel_rfl) (by kernel_rfl) (by kernel_rfl) (Or.inl ⟨by rfl, fun w' hSw => ?_⟩) Qd.out.1 ?_
  rotate_left
  · go_simp
    all_goals with_reducible rfl
  simp only [Act.put, List.setIfInBounds_toArray, List.set_cons_zero, List.set_cons_succ]
  refine ord_call (f := 17) (args := #[.agg #[.int .u64 a, .int .u64 b], .agg #[.int .u64 a', .int .u64 b']]) (w1 := W4.drew) (i := 9) (fuel := 5) (by simp; rfl) (by kernel_rfl) (by rfl) ?_ ?_
  · go_simp
    all_goals with_reducible rfl
  refine (mul_c a b a' b' _ ha hb1 ha' hb1').mono ?_
  rintro e x2 ⟨_, ⟨y0, y1, y2, y3, HMv, rfl⟩, rfl, hb⟩
  have Q2 := Lib.hid (Qd.out.below hb)
  have HMV := Lib.hid HMv
  clear hb HMv
  refine ⟨_, rfl, Q2.out.1, ?_⟩
  simp only [Act.put, List.setIfInBounds_toArray, List.set_cons_zero, List.set_cons_succ]
  refine ord_call (f := 18) (args := #[.bool (n != n'), .agg #[.int .u64 y0, .int .u64 y1, .int .u64 y2, .int .u64 y3], .agg #[.int .u64 v0, .int .u64 v1], .int .i64 t, .int .i64 m]) (w1 := x2) (i := 13) (fuel := 4) (by simp; rfl) (by kernel_rfl) (by rfl) ?_ ?_
  · go_simp
    all_goals (try (with_reducible rfl))
    all_goals (cases n <;> cases n' <;> rfl)
  refine (ans_of (rounded_all (n != n') y0 y1 y2 y3 v0 v1 t m _ HMV.out.1 HMV.out.2.1 HMV.out.2.2.1 HMV.out.2.2.2.1 hv0 hv1 (by rw [EV.out]; exact HPP.out) ht0 ht9 HM.out) (by rw [HMV.out.2.2.2.2, EV.out])).mono ?_
  rintro e x9 ⟨_, ⟨m4, c4, d4, q4, e4, D4, rfl⟩, rfl, hb⟩
  have Q9 := Lib.hid (Q2.out.below hb)
  have HD4 := Lib.hid D4
  clear hb D4
  refine ⟨_, rfl, Q9.out.1, ?_⟩
  simp only [Act.put, List.setIfInBounds_toArray, List.set_cons_zero, List.set_cons_succ]
  refine ord_take (v := ?_) (i := 14) (fuel := 3) (by simp; rfl) (by kernel_rfl) (by kernel_rfl) (by kernel_rfl) (Or.inl ⟨by rfl, fun w' hSw => ?_⟩) Q9.out.1 ?_
  rotate_left
  · go_simp
    all_goals with_reducible rfl
  simp only [Act.put, List.setIfInBounds_toArray, List.set_cons_zero, List.set_cons_succ]
  refine ord_take (v := ?_) (i := 15) (fuel := 2) (by simp; rfl) (by kernel_rfl) (by kernel_rfl) (by kernel_rfl) (Or.inl ⟨by rfl, fun w' hSw => ?_⟩) Q9.out.1 ?_
  rotate_left
  · go_simp
    all_goals with_reducible rfl
  simp only [Act.put, List.setIfInBounds_toArray, List.set_cons_zero, List.set_cons_succ]
  obtain ⟨lz, ⟨z0, z1, z2, z3⟩, y0, y1, y2, y3⟩ := blk_c4 Q9.out.2
  have VS1 := HB.set4 (a' := .bool m4) (b' := .int .u64 c4) (c' := .int .u64 d4) (d' := .int .i64 q4) Q9.out.1 Q9.out.2 (by omega) hne
  have VS := HB.sub (bs' := [(go + 1, 25, #[.int .u64 v0, .int .u64 v1]), (go, 25, #[.int .u64 o0, .int .u64 o1]), (w.heap.size + 1, 27, #[.bool n', .int .u64 a', .int .u64 b', .int .i64 s']), (w.heap.size, 27, #[.bool n, .int .u64 a, .int .u64 b, .int .i64 s])]) VS1 (by simp)
  refine ord_skip (w' := ((((x9.setCell ⟨w.heap.size + 1 + 1, 0, none⟩ (.bool m4)).setCell ⟨w.heap.size + 1 + 1, 1, none⟩ (.int .u64 c4)).setCell ⟨w.heap.size + 1 + 1, 2, none⟩ (.int .u64 d4)).setCell ⟨w.heap.size + 1 + 1, 3, none⟩ (.int .i64 q4))) (i := 16) (fuel := 1) (by simp; rfl) (by kernel_rfl) (by rfl) (by rfl) ?_ VS ?_
  · go_simp
    all_goals with_reducible rfl
  refine ord_take (v := ?_) (i := 17) (fuel := 0) (by simp; rfl) (by kernel_rfl) (by kernel_rfl) (by kernel_rfl) (Or.inl ⟨by rfl, fun w' hSw => ?_⟩) VS ?_
  rotate_left
  · go_simp
    all_goals with_reducible rfl
  simp only [Act.put, List.setIfInBounds_toArray, List.set_cons_zero, List.set_cons_succ]
  obtain ⟨lt, t0, t1, t2, t3⟩ := HB.dec (t := 27) (g := w.heap.size + 1 + 1) (a := .bool m4) (b := .int .u64 c4) (c := .int .u64 d4) (d := .int .i64 q4) VS1 (by simp)
  have HB1 := Lib.hid VS.1
  clear VS VS1 lz z0 z1 z2 z3 y0 y1 y2 y3
  refine ord_done (by kernel_rfl) ?_ _
  go_wp2
  exact bodyPost_ret (v := .tuple #[.agg #[.bool m4, .int .u64 c4, .int .u64 d4, .int .i64 q4], .int .i64 e4]) (by simp [results, Tryd.results7, go_sem, t0, t1, t2, t3]) rfl ⟨_, ⟨_, _, _, _, _, HD4.out, rfl⟩, rfl, HB1.out⟩
end Go.Proofs.YtkaflkofffgndaaDoor

namespace Go.Proofs.YtkaflkofffgndaaDoor
open Go.RowKit
theorem chk_mul (n : Bool) (N k : Nat) (s t : Int) (hk : 0 < k) (h : 1000000000000000000000000000000 ≤ N) (_s9 : 0 ≤ s ∧ s ≤ 9) : chkV n (N * k) t = errV 3 ∧ chkV n N s = errV 3 := by
  have h2 : N * 1 ≤ N * k := Nat.mul_le_mul_left N hk
  unfold chkV
  rw [if_neg (fun g => by omega), if_neg (fun g => by omega)]
  exact ⟨rfl, rfl⟩
set_option maxRecDepth 100000 in
set_option maxHeartbeats 6400000 in
theorem times_u (n : Bool) (a b s : Int) (n' : Bool) (a' b' s' t m : Int) (w : World) (ha : U64 a) (hb1 : U64 b) (ha' : U64 a') (hb1' : U64 b') (hr : RightD n a b s) (hr' : RightD n' a' b' s') (hg : GoodM t m) (hl : s + s' - t ≤ 0) :
    Calls Tryd.prog 7 #[.agg #[.bool n, .int .u64 a, .int .u64 b, .int .i64 s], .agg #[.bool n', .int .u64 a', .int .u64 b', .int .i64 s'], .int .i64 t, .int .i64 m] w (Ret w (Ans (timesV n a b s n' a' b' s' t m))) := by
  have Q0 := Lib.hid (QS.two w n a b s n' a' b' s')
  have HR := Lib.hid (decide_eq_true hr)
  have HR' := Lib.hid (decide_eq_true hr')
  have HG := Lib.hid (decide_eq_true hg)
  have h0 := hr.2.1
  have h9 := hr.2.2.1
  have h0' := hr'.2.1
  have h9' := hr'.2.2.1
  have ht0 := hg.1
  have ht9 := hg.2.1
  have HV := Lib.hid (show timesV n a b s n' a' b' s' t m = chkV (n != n') (v2 a b * v2 a' b' * 10 ^ (t - (s + s')).toNat) t by
    unfold timesV
    rw [if_pos ⟨hr, hr', hg⟩, times_up' _ s s' t _ m h0 h0' ht0 hl])
  rw [HV.out]
  have hws : wrap64 (s + s') = s + s' := by unfold wrap64; omega
  have hwt : wrap64 (s + s' - t) = s + s' - t := by unfold wrap64; omega
  have hdl : decide (0 < s + s' - t) = false := decide_eq_false (by omega)
  have MU := Lib.hid (show mulV n a b s n' a' b' s' = chkV (n != n') (v2 a b * v2 a' b') (s + s') by unfold mulV; rw [if_pos ⟨hr, hr'⟩])
  obtain ⟨M, hM⟩ : ∃ M, v2 a b * v2 a' b' = M := ⟨_, rfl⟩
  rw [hM] at MU ⊢
  have hk : 0 < 10 ^ (t - (s + s')).toNat := Nat.pow_pos (by decide)
  by_cases hbig : 1000000000000000000000000000000 ≤ M
  · have HC := chk_mul (n != n') M (10 ^ (t - (s + s')).toNat) (s + s') t hk hbig ⟨by omega, by omega⟩
    rw [HC.1]
    have mu := MU.out
    rw [HC.2, err_form] at mu
    obtain ⟨x, c, d, q, mu'⟩ : ∃ (x : Bool) (c d q : Int), mulV n a b s n' a' b' s' = .tuple #[.agg #[.bool x, .int .u64 c, .int .u64 d, .int .i64 q], .int .i64 3] := ⟨_, _, _, _, mu⟩
    replace MU := Lib.hid mu'
    clear mu mu'
    clear hr hr' hg hM hk HC HV hbig
    go_enter Tryd.func7, Tryd.ntmps7
    go_wp2_with fail
    refine (right_c n a b s _ ha hb1).mono ?_
    rintro e w1 ⟨_, rfl, rfl, hb⟩
    rw [HR.out]
    have Q1 := Lib.hid (Q0.out.below hb)
    clear hb
    obtain ⟨lq, q0, q1, q2, q3⟩ := HB.dec (t := 27) (g := w.heap.size + 1) (a := .bool n') (b := .int .u64 a') (c := .int .u64 b') (d := .int .i64 s') Q1.out.1 (by simp)
    go_wp2_with fail
    refine (right_c n' a' b' s' _ ha' hb1').mono ?_
    rintro e w2 ⟨_, rfl, rfl, hb⟩
    rw [HR'.out]
    have Q2 := Lib.hid (Q1.out.below hb)
    clear hb lq q0 q1 q2 q3
    go_wp2_with fail
    refine (qknown_all t m _).mono ?_
    rintro e w' ⟨rfl, rfl⟩
    rw [HG.out]
    obtain ⟨lp, p0, p1, p2, p3⟩ := HB.dec (t := 27) (g := w.heap.size) (a := .bool n) (b := .int .u64 a) (c := .int .u64 b) (d := .int .i64 s) Q2.out.1 (by simp)
    obtain ⟨lq, q0, q1, q2, q3⟩ := HB.dec (t := 27) (g := w.heap.size + 1) (a := .bool n') (b := .int .u64 a') (c := .int .u64 b') (d := .int .i64 s') Q2.out.1 (by simp)
    go_wp2_with fail
    refine (mul_all n a b s n' a' b' s' _ ha hb1 ha' hb1').mono ?_
    rintro e w3 ⟨v, hv, rfl, hb⟩
    have ev := ans_eq hv
    rw [MU.out] at ev
    subst ev
    have q4 := (Q2.out.below hb).push #[.bool x, .int .u64 c, .int .u64 d, .int .i64 q] 27
    have hlt4 := (Q2.out.below hb).2.lt
    obtain ⟨go, hgo⟩ : ∃ g, w3.heap.size = g := ⟨_, rfl⟩
    rw [hgo] at q4 hlt4
    obtain ⟨W4, hW4⟩ : ∃ y, w3.alloc (.cells #[.bool x, .int .u64 c, .int .u64 d, .int .i64 q] 27) = y := ⟨_, rfl⟩
    rw [hW4] at q4
    have Q4 := Lib.hid q4
    clear hb hv q4 lp p0 p1 p2 p3 lq q0 q1 q2 q3 Q2
    obtain ⟨lz, ⟨z0, z1, z2, z3⟩, y0, y1, y2, y3⟩ := blk_c4 Q4.out.2
    have HBB := Lib.hid Q4.out.1.1
    go_wp2
    exact bodyPost_ret (v := .tuple #[.agg #[.bool false, .int .u64 0, .int .u64 0, .int .i64 0], .int .i64 3]) (by simp [results, Tryd.results7, go_sem, z0, z1, z2, z3]) rfl ⟨_, ans_err 3, rfl, bel4 HBB.out (by omega)⟩
  · have HZ := Lib.hid (show chkV (n != n') (M * 10 ^ (t - (s + s')).toNat) t = chkZ (zAt (zOf (n != n') M) (s + s') t) t by rw [chk_z _ _ _ ht0 ht9, zAt_zOf])
    have hzb : (zOf (n != n') M).natAbs < 1000000000000000000000000000000 := by rw [zOf_abs]; omega
    obtain ⟨x, c, d, hD, eD⟩ := decV_is (z := zOf (n != n') M) (s := s + s') hzb
    have HS := Lib.hid (show scaledV x c d (s + s') t = chkV (n != n') (M * 10 ^ (t - (s + s')).toNat) t by
      unfold scaledV
      rw [if_pos ⟨decIs_right hD hzb (by omega) (by omega), by omega, ht9⟩, HZ.out, decIs_zOf hD])
    rw [← HS.out]
    rw [show chkV (n != n') M (s + s') = .tuple #[.agg #[.bool x, .int .u64 c, .int .u64 d, .int .i64 (s + s')], .int .i64 0] by unfold chkV; rw [if_pos ⟨by omega, by omega, by omega⟩]; unfold okV; rw [eD]] at MU
    have hc := hD.2.1
    have hd := hD.2.2.1
    clear hr hr' hg hM hk HZ HV HS hbig hzb hD eD
    go_enter Tryd.func7, Tryd.ntmps7
    go_wp2_with fail
    refine (right_c n a b s _ ha hb1).mono ?_
    rintro e w1 ⟨_, rfl, rfl, hb⟩
    rw [HR.out]
    have Q1 := Lib.hid (Q0.out.below hb)
    clear hb
    obtain ⟨lq, q0, q1, q2, q3⟩ := HB.dec (t := 27) (g := w.heap.size + 1) (a := .bool n') (b := .int .u64 a') (c := .int .u64 b') (d := .int .i64 s') Q1.out.1 (by simp)
    go_wp2_with fail
    refine (right_c n' a' b' s' _ ha' hb1').mono ?_
    rintro e w2 ⟨_, rfl, rfl, hb⟩
    rw [HR'.out]
    have Q2 := Lib.hid (Q1.out.below hb)
    clear hb lq q0 q1 q2 q3
    go_wp2_with fail
    refine (qknown_all t m _).mono ?_
    rintro e w' ⟨rfl, rfl⟩
    rw [HG.out]
    obtain ⟨lp, p0, p1, p2, p3⟩ := HB.dec (t := 27) (g := w.heap.size) (a := .bool n) (b := .int .u64 a) (c := .int .u64 b) (d := .int .i64 s) Q2.out.1 (by simp)
    obtain ⟨lq, q0, q1, q2, q3⟩ := HB.dec (t := 27) (g := w.heap.size + 1) (a := .bool n') (b := .int .u64 a') (c := .int .u64 b') (d := .int .i64 s') Q2.out.1 (by simp)
    go_wp2_with fail
    refine (mul_all n a b s n' a' b' s' _ ha hb1 ha' hb1').mono ?_
    rintro e w3 ⟨v, hv, rfl, hb⟩
    have ev := ans_eq hv
    rw [MU.out] at ev
    subst ev
    have q4 := (Q2.out.below hb).push #[.bool x, .int .u64 c, .int .u64 d, .int .i64 (s + s')] 27
    have hlt4 := (Q2.out.below hb).2.lt
    obtain ⟨go, hgo⟩ : ∃ g, w3.heap.size = g := ⟨_, rfl⟩
    rw [hgo] at q4 hlt4
    obtain ⟨W4, hW4⟩ : ∃ y, w3.alloc (.cells #[.bool x, .int .u64 c, .int .u64 d, .int .i64 (s + s')] 27) = y := ⟨_, rfl⟩
    rw [hW4] at q4
    have Q4 := Lib.hid q4
    clear hb hv q4 lp p0 p1 p2 p3 lq q0 q1 q2 q3 Q2
    obtain ⟨lq, q0, q1, q2, q3⟩ := HB.dec (t := 27) (g := go) (a := .bool x) (b := .int .u64 c) (c := .int .u64 d) (d := .int .i64 (s + s')) Q4.out.1 (by simp)
    go_wp2_with fail
    clear hgo hW4
    refine (scaled_all x c d (s + s') t _ hc hd).mono ?_
    rintro e x9 ⟨_, ⟨m4, c4, d4, q4, e4, D4, rfl⟩, rfl, hb⟩
    have Q9 := Lib.hid (Q4.out.below hb)
    have HD4 := Lib.hid D4
    clear hb D4 lq q0 q1 q2 q3
    have hne : ∀ b0 ∈ ([(go, 27, #[.bool x, .int .u64 c, .int .u64 d, .int .i64 (s + s')]), (w.heap.size + 1, 27, #[.bool n', .int .u64 a', .int .u64 b', .int .i64 s']), (w.heap.size, 27, #[.bool n, .int .u64 a, .int .u64 b, .int .i64 s])] : List (Nat × TypeId × Array Value)), b0.1 ≠ w.heap.size + 1 + 1 := by intro b0 hb0; simp at hb0; rcases hb0 with rfl | rfl | rfl <;> simp <;> omega
    obtain ⟨lz, ⟨z0, z1, z2, z3⟩, y0, y1, y2, y3⟩ := blk_c4 Q9.out.2
    have VS1 := HB.set4 (a' := .bool m4) (b' := .int .u64 c4) (c' := .int .u64 d4) (d' := .int .i64 q4) Q9.out.1 Q9.out.2 (by omega) hne
    obtain ⟨lt, t0, t1, t2, t3⟩ := HB.dec (t := 27) (g := w.heap.size + 1 + 1) (a := .bool m4) (b := .int .u64 c4) (c := .int .u64 d4) (d := .int .i64 q4) VS1 (by simp)
    have HB1 := Lib.hid VS1.1
    clear VS1
    go_wp2
    exact bodyPost_ret (v := .tuple #[.agg #[.bool m4, .int .u64 c4, .int .u64 d4, .int .i64 q4], .int .i64 e4]) (by simp [results, Tryd.results7, go_sem, t0, t1, t2, t3]) rfl ⟨_, ⟨_, _, _, _, _, HD4.out, rfl⟩, rfl, HB1.out⟩
set_option maxRecDepth 100000 in
set_option maxHeartbeats 6400000 in
theorem times_all (n : Bool) (a b s : Int) (n' : Bool) (a' b' s' t m : Int) (w : World) (ha : U64 a) (hb1 : U64 b) (ha' : U64 a') (hb1' : U64 b') :
    Calls Tryd.prog 7 #[.agg #[.bool n, .int .u64 a, .int .u64 b, .int .i64 s], .agg #[.bool n', .int .u64 a', .int .u64 b', .int .i64 s'], .int .i64 t, .int .i64 m] w (Ret w (Ans (timesV n a b s n' a' b' s' t m))) := by
  have Q0 := Lib.hid (QS.two w n a b s n' a' b' s')
  by_cases hr : RightD n a b s
  · have HR := Lib.hid (decide_eq_true hr)
    by_cases hr' : RightD n' a' b' s'
    · have HR' := Lib.hid (decide_eq_true hr')
      by_cases hg : GoodM t m
      · by_cases hl : 0 < s + s' - t
        · exact times_n n a b s n' a' b' s' t m w ha hb1 ha' hb1' hr hr' hg hl
        · exact times_u n a b s n' a' b' s' t m w ha hb1 ha' hb1' hr hr' hg (by omega)
      · have HG := Lib.hid (decide_eq_false hg)
        have HV := Lib.hid (show timesV n a b s n' a' b' s' t m = errV 1 by unfold timesV; rw [if_neg (fun h => hg h.2.2)])
        rw [HV.out]
        clear hr hr' hg
        go_enter Tryd.func7, Tryd.ntmps7
        go_wp2_with fail
        refine (right_c n a b s _ ha hb1).mono ?_
        rintro e w1 ⟨_, rfl, rfl, hb⟩
        rw [HR.out]
        have Q1 := Lib.hid (Q0.out.below hb)
        clear hb
        obtain ⟨lq, q0, q1, q2, q3⟩ := HB.dec (t := 27) (g := w.heap.size + 1) (a := .bool n') (b := .int .u64 a') (c := .int .u64 b') (d := .int .i64 s') Q1.out.1 (by simp)
        go_wp2_with fail
        refine (right_c n' a' b' s' _ ha' hb1').mono ?_
        rintro e w2 ⟨_, rfl, rfl, hb⟩
        rw [HR'.out]
        have Q2 := Lib.hid (Q1.out.below hb)
        clear hb lq q0 q1 q2 q3
        go_wp2_with fail
        refine (qknown_all t m _).mono ?_
        rintro e w' ⟨rfl, rfl⟩
        rw [HG.out]
        obtain ⟨lz, ⟨z0, z1, z2, z3⟩, y0, y1, y2, y3⟩ := blk_c4 Q2.out.2
        have HBB := Lib.hid Q2.out.1.1
        go_wp2
        exact bodyPost_ret (v := .tuple #[.agg #[.bool false, .int .u64 0, .int .u64 0, .int .i64 0], .int .i64 1]) (by simp [results, Tryd.results7, go_sem, z0, z1, z2, z3]) rfl ⟨_, ans_err 1, rfl, bel4 HBB.out (by omega)⟩
    · have HR' := Lib.hid (decide_eq_false hr')
      have HV := Lib.hid (show timesV n a b s n' a' b' s' t m = errV 1 by unfold timesV; rw [if_neg (fun h => hr' h.2.1)])
      rw [HV.out]
      clear hr hr'
      go_enter Tryd.func7, Tryd.ntmps7
      go_wp2_with fail
      refine (right_c n a b s _ ha hb1).mono ?_
      rintro e w1 ⟨_, rfl, rfl, hb⟩
      rw [HR.out]
      have Q1 := Lib.hid (Q0.out.below hb)
      clear hb
      obtain ⟨lq, q0, q1, q2, q3⟩ := HB.dec (t := 27) (g := w.heap.size + 1) (a := .bool n') (b := .int .u64 a') (c := .int .u64 b') (d := .int .i64 s') Q1.out.1 (by simp)
      go_wp2_with fail
      refine (right_c n' a' b' s' _ ha' hb1').mono ?_
      rintro e w2 ⟨_, rfl, rfl, hb⟩
      rw [HR'.out]
      have Q2 := Lib.hid (Q1.out.below hb)
      clear hb lq q0 q1 q2 q3
      obtain ⟨lz, ⟨z0, z1, z2, z3⟩, y0, y1, y2, y3⟩ := blk_c4 Q2.out.2
      have HBB := Lib.hid Q2.out.1.1
      go_wp2
      exact bodyPost_ret (v := .tuple #[.agg #[.bool false, .int .u64 0, .int .u64 0, .int .i64 0], .int .i64 1]) (by simp [results, Tryd.results7, go_sem, z0, z1, z2, z3]) rfl ⟨_, ans_err 1, rfl, bel4 HBB.out (by omega)⟩
  · have HR := Lib.hid (decide_eq_false hr)
    have HV := Lib.hid (show timesV n a b s n' a' b' s' t m = errV 1 by unfold timesV; rw [if_neg (fun h => hr h.1)])
    rw [HV.out]
    clear hr
    go_enter Tryd.func7, Tryd.ntmps7
    go_wp2_with fail
    refine (right_c n a b s _ ha hb1).mono ?_
    rintro e w1 ⟨_, rfl, rfl, hb⟩
    rw [HR.out]
    have Q1 := Lib.hid (Q0.out.below hb)
    clear hb
    obtain ⟨lz, ⟨z0, z1, z2, z3⟩, y0, y1, y2, y3⟩ := blk_c4 Q1.out.2
    have HBB := Lib.hid Q1.out.1.1
    go_wp2
    exact bodyPost_ret (v := .tuple #[.agg #[.bool false, .int .u64 0, .int .u64 0, .int .i64 0], .int .i64 1]) (by simp [results, Tryd.results7, go_sem, z0, z1, z2, z3]) rfl ⟨_, ans_err 1, rfl, bel4 HBB.out (by omega)⟩
end Go.Proofs.YtkaflkofffgndaaDoor

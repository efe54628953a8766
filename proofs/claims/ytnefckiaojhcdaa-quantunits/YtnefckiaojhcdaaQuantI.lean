/- quant: Times, Unit, of small ones. -/
import Derived.Test.YtnefckiaojhcdaaQuantF
import Derived.Test.YtnefckiaojhcdaaScaledA
namespace Go.Proofs.Ytnefckiaojhcdaa
open Go.RowKit
set_option maxRecDepth 100000 in
set_option maxHeartbeats 3200000 in
theorem times_up (n : Bool) (a b s z : Int) (n' : Bool) (a' b' s' z' t mode : Int) (w : World) (h : DecIs n a b z) (h' : DecIs n' a' b' z') (hz : Sm z) (hz' : Sm z') (h0 : 0 ≤ s) (h0' : 0 ≤ s') (h9 : s ≤ 9) (h9' : s' ≤ 9) (ht0 : 0 ≤ t) (ht9 : t ≤ 9) (hm : mode = 0 ∨ mode = 1 ∨ mode = 2 ∨ mode = 3 ∨ mode = 4) (hl : s + s' ≤ t) (hzz : Sm (z * z')) :
    Calls Try.prog 13 #[.agg #[.bool n, .int .u64 a, .int .u64 b, .int .i64 s], .agg #[.bool n', .int .u64 a', .int .u64 b', .int .i64 s'], .int .i64 t, .int .i64 mode] w (Ret w (IsDecE (zAt (z * z') (s + s') t) t 0)) := by
  have HH := Lib.hid h
  have HH' := Lib.hid h'
  have HZ := Lib.hid hz
  have HZ' := Lib.hid hz'
  have HZZ := Lib.hid hzz
  have hm0 : 0 ≤ mode ∧ mode ≤ 4 := by omega
  obtain ⟨m0, m4⟩ := hm0
  have ss0 : 0 ≤ s + s' := by omega
  have ss9 : s + s' ≤ 9 := by omega
  have hll : ¬ 0 < s + s' - t := by omega
  clear h h' hz hz' hzz hm
  have W : HB w [(w.heap.size + 1 + 1, 25, #[.bool false, .int .u64 0, .int .u64 0, .int .i64 0]), (w.heap.size + 1, 25, #[.bool n', .int .u64 a', .int .u64 b', .int .i64 s']), (w.heap.size, 25, #[.bool n, .int .u64 a, .int .u64 b, .int .i64 s])] (((w.alloc (.cells #[.bool n, .int .u64 a, .int .u64 b, .int .i64 s] 25)).alloc (.cells #[.bool n', .int .u64 a', .int .u64 b', .int .i64 s'] 25)).alloc (.cells #[.bool false, .int .u64 0, .int .u64 0, .int .i64 0] 25)) := by
    have h := (((HB.start (Below.refl _ w)).push #[.bool n, .int .u64 a, .int .u64 b, .int .i64 s] 25).push #[.bool n', .int .u64 a', .int .u64 b', .int .i64 s'] 25).push #[.bool false, .int .u64 0, .int .u64 0, .int .i64 0] 25
    simpa using h
  have hlg : w.heap.size ≤ w.heap.size + 1 + 1 := by omega
  go_enter Try.func13, Try.ntmps13
  go_wp2_with fail
  refine (right_d n a b s z _ HH.out (sm_30 HZ.out) h0 h9).mono ?_
  rintro e w1 ⟨_, rfl, rfl, hb⟩
  replace W := W.below hb
  clear hb
  obtain ⟨lq, q0, q1, q2, q3⟩ := HB.dec (t := 25) (g := w.heap.size + 1) (a := .bool n') (b := .int .u64 a') (c := .int .u64 b') (d := .int .i64 s') W (by simp)
  go_wp2_with fail
  refine (right_d n' a' b' s' z' _ HH'.out (sm_30 HZ'.out) h0' h9').mono ?_
  rintro e w2 ⟨_, rfl, rfl, hb⟩
  replace W := W.below hb
  clear hb lq q0 q1 q2 q3
  go_wp2_with fail
  refine (qknown_c t mode _ ht0 ht9 m0 m4).mono ?_
  rintro e w3 ⟨_, rfl, rfl, hb⟩
  replace W := W.below hb
  clear hb
  obtain ⟨lq, q0, q1, q2, q3⟩ := HB.dec (t := 25) (g := w.heap.size + 1) (a := .bool n') (b := .int .u64 a') (c := .int .u64 b') (d := .int .i64 s') W (by simp)
  obtain ⟨lp, p0, p1, p2, p3⟩ := HB.dec (t := 25) (g := w.heap.size) (a := .bool n) (b := .int .u64 a) (c := .int .u64 b) (d := .int .i64 s) W (by simp)
  go_wp2_with fail
  refine (mul_d n a b s z n' a' b' s' z' _ HH.out HH'.out (sm_30 HZ.out) (sm_30 HZ'.out) h0 h0' ss9 (by have e := sm_30 HZZ.out; rw [Int.natAbs_mul] at e; exact e)).mono ?_
  rintro e w4 ⟨_, ⟨n3, a3, b3, D3, rfl⟩, rfl, hb⟩
  have HD3 := Lib.hid D3
  replace W := W.below hb
  clear hb lq q0 q1 q2 q3 lp p0 p1 p2 p3 D3
  replace W := W.push #[.bool n3, .int .u64 a3, .int .u64 b3, .int .i64 (s + s')] 25
  go_wp2_with fail
  refine (scaled_d n3 a3 b3 (s + s') (z * z') t _ HD3.out HZZ.out ss0 hl ht9).mono ?_
  rintro e w5 ⟨_, ⟨n2, a2, b2, D2, rfl⟩, rfl, hb⟩
  have HD2 := Lib.hid D2
  replace W := W.below hb
  clear hb D2
  obtain ⟨ly, y0, y1, y2, y3⟩ := HB.dec (t := 25) (g := w.heap.size + 1 + 1) (a := .bool false) (b := .int .u64 0) (c := .int .u64 0) (d := .int .i64 0) W (by simp)
  have Bz := HB.blk (g := w.heap.size + 1 + 1) (t := 25) (cs := #[.bool false, .int .u64 0, .int .u64 0, .int .i64 0]) W (by simp)
  have fz0 := Bz.frozen 0
  have fz1 := Bz.frozen 1
  have fz2 := Bz.frozen 2
  have fz3 := Bz.frozen 3
  clear Bz
  have HB1 := Lib.hid W.1
  clear W
  go_wp2
  exact bodyPost_ret (v := .tuple #[.agg #[.bool n2, .int .u64 a2, .int .u64 b2, .int .i64 t], .int .i64 0]) (by simp [results, Try.results13, go_sem, y0, y1, y2, y3]) rfl ⟨_, ⟨_, _, _, HD2.out, rfl⟩, rfl, bel4 HB1.out hlg⟩
theorem tmMk {w0 w : World} {gv gb ga ge : Nat} {v0 v1 : Int} {n : Bool} {a b s : Int} {n' : Bool} {a' b' s' : Int} (h : HB w0 [(gv, 23, #[.int .u64 v0, .int .u64 v1]), (gb, 25, #[.bool n', .int .u64 a', .int .u64 b', .int .i64 s']), (ga, 25, #[.bool n, .int .u64 a, .int .u64 b, .int .i64 s])] w ∧ Any4 w ge 25) : HB w0 [(gv, 23, #[.int .u64 v0, .int .u64 v1]), (gb, 25, #[.bool n', .int .u64 a', .int .u64 b', .int .i64 s']), (ga, 25, #[.bool n, .int .u64 a, .int .u64 b, .int .i64 s])] w ∧ Any4 w ge 25 ∧ (w.cell? ⟨gv, 0, none⟩ = some (.int .u64 v0) ∧ w.cell? ⟨gv, 1, none⟩ = some (.int .u64 v1)) ∧ (w.cell? ⟨gb, 0, none⟩ = some (.bool n') ∧ w.cell? ⟨gb, 1, none⟩ = some (.int .u64 a') ∧ w.cell? ⟨gb, 2, none⟩ = some (.int .u64 b') ∧ w.cell? ⟨gb, 3, none⟩ = some (.int .i64 s')) ∧ (w.cell? ⟨ga, 0, none⟩ = some (.bool n) ∧ w.cell? ⟨ga, 1, none⟩ = some (.int .u64 a) ∧ w.cell? ⟨ga, 2, none⟩ = some (.int .u64 b) ∧ w.cell? ⟨ga, 3, none⟩ = some (.int .i64 s)) :=
  ⟨h.1, h.2, (HB.two (t := 23) h.1 (by simp)).2, (HB.dec (t := 25) h.1 (by simp)).2, (HB.dec (t := 25) h.1 (by simp)).2⟩
set_option maxRecDepth 100000 in
set_option maxHeartbeats 3200000 in
theorem times_down (n : Bool) (a b s z : Int) (n' : Bool) (a' b' s' z' t mode : Int) (w : World) (h : DecIs n a b z) (h' : DecIs n' a' b' z') (hz : Sm z) (hz' : Sm z') (h0 : 0 ≤ s) (h0' : 0 ≤ s') (h9 : s ≤ 9) (h9' : s' ≤ 9) (ht0 : 0 ≤ t) (ht9 : t ≤ 9) (hm : mode = 0 ∨ mode = 1 ∨ mode = 2 ∨ mode = 3 ∨ mode = 4) (hl : t < s + s') (N : Nat) (hN : roundN (n != n') (z.natAbs * z'.natAbs) (10 ^ (s + s' - t).toNat) mode = N) (hb30 : N < 1000000000000000000000000000000) (hk9 : s + s' - t ≤ 9) :
    Calls Try.prog 13 #[.agg #[.bool n, .int .u64 a, .int .u64 b, .int .i64 s], .agg #[.bool n', .int .u64 a', .int .u64 b', .int .i64 s'], .int .i64 t, .int .i64 mode] w (Ret w (IsDecE (zOf (n != n') N) t 0)) := by
  have ha := h.2.1
  have hb1 := h.2.2.1
  have ha' := h'.2.1
  have hb1' := h'.2.2.1
  have EA := Lib.hid h.2.2.2
  have EB := Lib.hid h'.2.2.2
  have HH := Lib.hid h
  have HH' := Lib.hid h'
  have HZ := Lib.hid hz
  have HZ' := Lib.hid hz'
  have HM := Lib.hid hm
  have HN := Lib.hid (And.intro hN hb30)
  have hm0 : 0 ≤ mode ∧ mode ≤ 4 := by omega
  obtain ⟨m0, m4⟩ := hm0
  have hwr : IntKind.i64.wrap (-(s + s' - t)) = -(s + s' - t) := by rw [IntKind.wrap_i64]; omega
  obtain ⟨K, hK⟩ : ∃ K, s + s' - t = K := ⟨_, rfl⟩
  rw [hK] at hwr
  have k0 : 0 < K := by omega
  have hk1 : -9 ≤ -K := by omega
  have hk2 : -K ≤ 18 := by omega
  have hkk : (-(-K)).toNat = (s + s' - t).toNat := by omega
  have HKK := Lib.hid hkk
  clear h h' hz hz' hm hN hb30 hkk
  have W : HB w [(w.heap.size + 1 + 1, 25, #[.bool false, .int .u64 0, .int .u64 0, .int .i64 0]), (w.heap.size + 1, 25, #[.bool n', .int .u64 a', .int .u64 b', .int .i64 s']), (w.heap.size, 25, #[.bool n, .int .u64 a, .int .u64 b, .int .i64 s])] (((w.alloc (.cells #[.bool n, .int .u64 a, .int .u64 b, .int .i64 s] 25)).alloc (.cells #[.bool n', .int .u64 a', .int .u64 b', .int .i64 s'] 25)).alloc (.cells #[.bool false, .int .u64 0, .int .u64 0, .int .i64 0] 25)) := by
    have h := (((HB.start (Below.refl _ w)).push #[.bool n, .int .u64 a, .int .u64 b, .int .i64 s] 25).push #[.bool n', .int .u64 a', .int .u64 b', .int .i64 s'] 25).push #[.bool false, .int .u64 0, .int .u64 0, .int .i64 0] 25
    simpa using h
  have hlg : w.heap.size ≤ w.heap.size + 1 + 1 := by omega
  go_enter Try.func13, Try.ntmps13
  go_wp2_with fail
  refine (right_d n a b s z _ HH.out (sm_30 HZ.out) h0 h9).mono ?_
  rintro e w1 ⟨_, rfl, rfl, hb⟩
  replace W := W.below hb
  clear hb
  obtain ⟨lq, q0, q1, q2, q3⟩ := HB.dec (t := 25) (g := w.heap.size + 1) (a := .bool n') (b := .int .u64 a') (c := .int .u64 b') (d := .int .i64 s') W (by simp)
  go_wp2_with fail
  refine (right_d n' a' b' s' z' _ HH'.out (sm_30 HZ'.out) h0' h9').mono ?_
  rintro e w2 ⟨_, rfl, rfl, hb⟩
  replace W := W.below hb
  clear hb lq q0 q1 q2 q3
  go_wp2_with fail
  refine (qknown_c t mode _ ht0 ht9 m0 m4).mono ?_
  rintro e w3 ⟨_, rfl, rfl, hb⟩
  replace W := W.below hb
  clear hb
  obtain ⟨lq, q0, q1, q2, q3⟩ := HB.dec (t := 25) (g := w.heap.size + 1) (a := .bool n') (b := .int .u64 a') (c := .int .u64 b') (d := .int .i64 s') W (by simp)
  obtain ⟨lp, p0, p1, p2, p3⟩ := HB.dec (t := 25) (g := w.heap.size) (a := .bool n) (b := .int .u64 a) (c := .int .u64 b) (d := .int .i64 s) W (by simp)
  go_wp2_with fail
  refine (tens_c (-K) _ hk1 hk2).mono ?_
  rintro e w4 ⟨_, ⟨o0, o1, v0, v1, ⟨ho0, ho1, eo⟩, ⟨hv0, hv1, ev⟩, rfl⟩, rfl, hb⟩
  have EV := Lib.hid ev
  replace W := W.below hb
  clear hb lq q0 q1 q2 q3 lp p0 p1 p2 p3 eo ev
  have hl3 := (HB.dec (t := 25) (g := w.heap.size + 1 + 1) (a := .bool false) (b := .int .u64 0) (c := .int .u64 0) (d := .int .i64 0) W (by simp)).1
  have V0 : HB w [(w4.heap.size + 1, 23, #[.int .u64 v0, .int .u64 v1]), (w4.heap.size, 23, #[.int .u64 o0, .int .u64 o1]), (w.heap.size + 1 + 1, 25, #[.bool false, .int .u64 0, .int .u64 0, .int .i64 0]), (w.heap.size + 1, 25, #[.bool n', .int .u64 a', .int .u64 b', .int .i64 s']), (w.heap.size, 25, #[.bool n, .int .u64 a, .int .u64 b, .int .i64 s])] ((w4.alloc (.cells #[.int .u64 o0, .int .u64 o1] 23)).alloc (.cells #[.int .u64 v0, .int .u64 v1] 23)) := by
    have h := (W.push #[.int .u64 o0, .int .u64 o1] 23).push #[.int .u64 v0, .int .u64 v1] 23
    simpa using h
  have A0 : Any4 ((w4.alloc (.cells #[.int .u64 o0, .int .u64 o1] 23)).alloc (.cells #[.int .u64 v0, .int .u64 v1] 23)) (w.heap.size + 1 + 1) 25 := ⟨_, _, _, _, HB.blk (g := w.heap.size + 1 + 1) (t := 25) (cs := #[.bool false, .int .u64 0, .int .u64 0, .int .i64 0]) V0 (by simp)⟩
  have V : HB w [(w4.heap.size + 1, 23, #[.int .u64 v0, .int .u64 v1]), (w.heap.size + 1, 25, #[.bool n', .int .u64 a', .int .u64 b', .int .i64 s']), (w.heap.size, 25, #[.bool n, .int .u64 a, .int .u64 b, .int .i64 s])] ((w4.alloc (.cells #[.int .u64 o0, .int .u64 o1] 23)).alloc (.cells #[.int .u64 v0, .int .u64 v1] 23)) := HB.sub V0 (by simp)
  have HV := Lib.hid (And.intro V A0)
  have hnes : ∀ b0 ∈ ([(w4.heap.size + 1, 23, #[.int .u64 v0, .int .u64 v1]), (w.heap.size + 1, 25, #[.bool n', .int .u64 a', .int .u64 b', .int .i64 s']), (w.heap.size, 25, #[.bool n, .int .u64 a, .int .u64 b, .int .i64 s])] : List (Nat × TypeId × Array Value)), b0.1 ≠ w.heap.size + 1 + 1 := by
    intro b0 hb
    simp at hb
    rcases hb with rfl | rfl | rfl <;> simp <;> omega
  have HNE := Lib.hid hnes
  have hE0 : 0 < v2 v0 v1 := by rw [EV.out]; exact Nat.pow_pos (by decide)
  have RC := Lib.hid (show ∀ (x0 x1 x2 x3 : Int) (wq : World), MulR a b a' b' x0 x1 x2 x3 → Calls Try.prog 44 #[.bool (!(n == n')), .agg #[.int .u64 x0, .int .u64 x1, .int .u64 x2, .int .u64 x3], .agg #[.int .u64 v0, .int .u64 v1], .int .i64 t, .int .i64 mode] wq (Ret wq (IsDecE (zOf (n != n') N) t 0)) from fun x0 x1 x2 x3 wq hM =>
    rounded_c (n != n') x0 x1 x2 x3 v0 v1 t mode wq hM.1 hM.2.1 hM.2.2.1 hM.2.2.2.1 hv0 hv1 hE0 ht0 ht9 HM.out N (by
      rw [hM.2.2.2.2, EA.out, EB.out, EV.out, HKK.out]
      exact HN.out.1) HN.out.2)
  clear W V0 V A0 hnes hE0
  go_upto_region 6 with fail
  go_region_held3 (fun w' => HB w [(w4.heap.size + 1, 23, #[.int .u64 v0, .int .u64 v1]), (w.heap.size + 1, 25, #[.bool n', .int .u64 a', .int .u64 b', .int .i64 s']), (w.heap.size, 25, #[.bool n, .int .u64 a, .int .u64 b, .int .i64 s])] w' ∧ Any4 w' (w.heap.size + 1 + 1) 25 ∧ (w'.cell? ⟨w4.heap.size + 1, 0, none⟩ = some (.int .u64 v0) ∧ w'.cell? ⟨w4.heap.size + 1, 1, none⟩ = some (.int .u64 v1)) ∧ (w'.cell? ⟨w.heap.size + 1, 0, none⟩ = some (.bool n') ∧ w'.cell? ⟨w.heap.size + 1, 1, none⟩ = some (.int .u64 a') ∧ w'.cell? ⟨w.heap.size + 1, 2, none⟩ = some (.int .u64 b') ∧ w'.cell? ⟨w.heap.size + 1, 3, none⟩ = some (.int .i64 s')) ∧ (w'.cell? ⟨w.heap.size, 0, none⟩ = some (.bool n) ∧ w'.cell? ⟨w.heap.size, 1, none⟩ = some (.int .u64 a) ∧ w'.cell? ⟨w.heap.size, 2, none⟩ = some (.int .u64 b) ∧ w'.cell? ⟨w.heap.size, 3, none⟩ = some (.int .i64 s)))
    (first
      | exact tmMk ⟨HB.drew HV.out.1, HV.out.2⟩
      | exact tmMk HY.out
      | exact tmMk HX.out
      | exact tmMk (hbA_set hlg HNE.out HY.out))
    (first
      | (go_at_call 43; (with_reducible refine (mul_c a b a' b' _ ha hb1 ha' hb1').mono ?_); rintro e wx ⟨_, ⟨x0, x1, x2, x3, HMv, rfl⟩, rfl, hbx⟩; have HX := Lib.hid (hbA_keep hbx (by assumption)); have HMV := Lib.hid HMv; clear hbx HMv)
      | (go_at_call 44; (with_reducible refine (RC.out x0 x1 x2 x3 _ HMV.out).mono ?_); rintro e wy ⟨_, ⟨n2, a2, b2, D2, rfl⟩, rfl, hby⟩; have HY := Lib.hid (hbA_keep hby (by assumption)); have HD2 := Lib.hid D2; clear D2 hby; obtain ⟨ly, u0, u1, u2, u3, y0, y1, y2, y3, f0, f1, f2, f3⟩ := Any4.facts HY.out.2))
  all_goals
    go_wp2
    exact bodyPost_ret (v := .tuple #[.agg #[.bool n2, .int .u64 a2, .int .u64 b2, .int .i64 t], .int .i64 0]) (by simp [results, Try.results13, go_sem, y0, y1, y2, y3]) rfl ⟨_, ⟨_, _, _, HD2.out, rfl⟩, rfl, bel4 HY.out.1.1 hlg⟩
set_option maxRecDepth 100000 in
set_option maxHeartbeats 3200000 in
theorem unit_q (n : Bool) (a b s z : Int) (n' : Bool) (a' b' s' z' mode : Int) (w : World) (h : DecIs n a b z) (h' : DecIs n' a' b' z') (hz : Sm z) (hz' : Sm z') (hz0 : 0 < z') (h0 : 0 ≤ s) (h0' : 0 ≤ s') (h9 : s ≤ 9) (h9' : s' ≤ 9) (hm : mode = 0 ∨ mode = 1 ∨ mode = 2 ∨ mode = 3 ∨ mode = 4)
    (N : Nat) (hN : divN (n != n') z s z' s' 0 mode = N) (hb30 : N * z'.natAbs < 1000000000000000000000000000000) :
    Calls Try.prog 14 #[.agg #[.bool n, .int .u64 a, .int .u64 b, .int .i64 s], .agg #[.bool n', .int .u64 a', .int .u64 b', .int .i64 s'], .int .i64 mode] w (Ret w (IsDecE (zOf (n != n') N * z') s' 0)) := by
  have hNN : N < 1000000000000000000000000000000 := Nat.lt_of_le_of_lt (Nat.le_mul_of_pos_right N (by omega)) hb30
  have HH := Lib.hid h
  have HH' := Lib.hid h'
  have HZ := Lib.hid hz
  have HZ' := Lib.hid hz'
  have HM := Lib.hid hm
  have HN := Lib.hid (And.intro hN (And.intro hb30 hNN))
  have hsg := Lib.hid (Int.sign_eq_one_of_pos hz0)
  have hne := Lib.hid (show z' ≠ 0 by omega)
  clear h h' hz hz' hm hN hb30 hNN
  have W : HB w [(w.heap.size + 1 + 1, 25, #[.bool false, .int .u64 0, .int .u64 0, .int .i64 0]), (w.heap.size + 1, 25, #[.bool n', .int .u64 a', .int .u64 b', .int .i64 s']), (w.heap.size, 25, #[.bool n, .int .u64 a, .int .u64 b, .int .i64 s])] (((w.alloc (.cells #[.bool n, .int .u64 a, .int .u64 b, .int .i64 s] 25)).alloc (.cells #[.bool n', .int .u64 a', .int .u64 b', .int .i64 s'] 25)).alloc (.cells #[.bool false, .int .u64 0, .int .u64 0, .int .i64 0] 25)) := by
    have h := (((HB.start (Below.refl _ w)).push #[.bool n, .int .u64 a, .int .u64 b, .int .i64 s] 25).push #[.bool n', .int .u64 a', .int .u64 b', .int .i64 s'] 25).push #[.bool false, .int .u64 0, .int .u64 0, .int .i64 0] 25
    simpa using h
  have hlg : w.heap.size ≤ w.heap.size + 1 + 1 := by omega
  go_enter Try.func14, Try.ntmps14
  go_wp2_with fail
  refine (sign_v n' a' b' s' z' 1 _ HH'.out (sm_30 HZ'.out) h0' h9' hsg.out).mono ?_
  rintro e w1 ⟨_, rfl, rfl, hb⟩
  replace W := W.below hb
  clear hb
  obtain ⟨lq, q0, q1, q2, q3⟩ := HB.dec (t := 25) (g := w.heap.size + 1) (a := .bool n') (b := .int .u64 a') (c := .int .u64 b') (d := .int .i64 s') W (by simp)
  obtain ⟨lp, p0, p1, p2, p3⟩ := HB.dec (t := 25) (g := w.heap.size) (a := .bool n) (b := .int .u64 a) (c := .int .u64 b) (d := .int .i64 s) W (by simp)
  go_wp2_with fail
  refine (div_q n a b s z n' a' b' s' z' 0 mode _ HH.out HH'.out (sm_30 HZ.out) HZ'.out hne.out h0 h0' h9 h9' (by decide) (by decide) HM.out N HN.out.1 HN.out.2.2).mono ?_
  rintro e w2 ⟨_, ⟨n3, a3, b3, D3, rfl⟩, rfl, hb⟩
  have HD3 := Lib.hid D3
  replace W := W.below hb
  clear hb lq q0 q1 q2 q3 lp p0 p1 p2 p3 D3
  obtain ⟨lq, q0, q1, q2, q3⟩ := HB.dec (t := 25) (g := w.heap.size + 1) (a := .bool n') (b := .int .u64 a') (c := .int .u64 b') (d := .int .i64 s') W (by simp)
  replace W := W.push #[.bool n3, .int .u64 a3, .int .u64 b3, .int .i64 0] 25
  go_wp2_with fail
  refine (mul_d n3 a3 b3 0 (zOf (n != n') N) n' a' b' s' z' _ HD3.out HH'.out (by rw [zOf_abs]; exact HN.out.2.2) (sm_30 HZ'.out) (by decide) h0' (by omega) (by rw [zOf_abs]; exact HN.out.2.1)).mono ?_
  rintro e w3 ⟨_, ⟨n2, a2, b2, D2, rfl⟩, rfl, hb⟩
  rw [Int.zero_add]
  have HD2 := Lib.hid D2
  replace W := W.below hb
  clear hb lq q0 q1 q2 q3 D2
  obtain ⟨ly, y0, y1, y2, y3⟩ := HB.dec (t := 25) (g := w.heap.size + 1 + 1) (a := .bool false) (b := .int .u64 0) (c := .int .u64 0) (d := .int .i64 0) W (by simp)
  have Bz := HB.blk (g := w.heap.size + 1 + 1) (t := 25) (cs := #[.bool false, .int .u64 0, .int .u64 0, .int .i64 0]) W (by simp)
  have fz0 := Bz.frozen 0
  have fz1 := Bz.frozen 1
  have fz2 := Bz.frozen 2
  have fz3 := Bz.frozen 3
  clear Bz
  have HB1 := Lib.hid W.1
  clear W
  go_wp2
  exact bodyPost_ret (v := .tuple #[.agg #[.bool n2, .int .u64 a2, .int .u64 b2, .int .i64 s'], .int .i64 0]) (by simp [results, Try.results14, go_sem, y0, y1, y2, y3]) rfl ⟨_, ⟨_, _, _, HD2.out, rfl⟩, rfl, bel4 HB1.out hlg⟩
end Go.Proofs.Ytnefckiaojhcdaa

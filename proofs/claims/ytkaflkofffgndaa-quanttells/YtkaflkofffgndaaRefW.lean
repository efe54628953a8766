/- Package pyxref1: Quant, Div, Times, Unit, at any decimals. -/
import Derived.Test.YtkaflkofffgndaaRefV
import Derived.Test.YtkaflkofffgndaaQuantS
namespace Go.Proofs.Ytkaflkofffgndaa
open Go.RowKit
theorem few_60 {A : Option Addr} {n cap k : Nat} {ds : List Nat} {w : World} (h : DigC w A n cap ds) (hn : Norm ds) (hlt : dv ds < 10 ^ k) (hk : k ≤ 200) : n ≤ 200 := Nat.le_trans (lenA h hn hlt) hk
theorem mul_pow_lt {A B x y : Nat} (ha : A < 10 ^ x) (hb : B < 10 ^ y) : A * B < 10 ^ (x + y) := by
  rw [Nat.pow_add]
  exact Nat.mul_lt_mul'' ha hb
theorem pow_lt_pow {x y : Nat} (h : x < y) : 10 ^ x < 10 ^ y := Nat.pow_lt_pow_right (by decide) h
set_option maxRecDepth 100000 in
set_option maxHeartbeats 6400000 in
theorem rquant_all (n : Bool) (a b s t m : Int) (w : World) (ha : U64 a) (hb1 : U64 b) :
    Calls Try.prog 10 #[.agg #[.bool n, .int .u64 a, .int .u64 b, .int .i64 s], .int .i64 t, .int .i64 m] w (Ret w (Ans (quantV n a b s t m))) := by
  have Q0 := Lib.hid (QS.one w n a b s)
  by_cases hr : RightD n a b s
  · have HR := Lib.hid (decide_eq_true hr)
    by_cases hg : GoodM t m
    · have HG := Lib.hid (decide_eq_true hg)
      have HM := Lib.hid hg.modes
      obtain ⟨p, rfl⟩ : ∃ p : Nat, t = (p : Int) := ⟨t.toNat, by have := hg.1; omega⟩
      obtain ⟨q, rfl⟩ : ∃ q : Nat, s = (q : Int) := ⟨s.toNat, by have := hr.2.1; omega⟩
      have hp9 : p ≤ 9 := by have := hg.2.1; omega
      have hq9 : q ≤ 9 := by have := hr.2.2.1; omega
      have h30 := Lib.hid hr.1
      have HV := Lib.hid (show quantV n a b q p m = chkV n (roundN n (v2 a b * 10 ^ p) (10 ^ q) m) p by unfold quantV; rw [if_pos ⟨hr, hg⟩]; simp)
      rw [HV.out]
      clear hr hg
      go_enter Try.func10, Try.ntmps10
      go_wp2_with fail
      refine (rdec_v n a b q true _ ha hb1 HR.out).mono ?_
      rintro e w1 ⟨_, rfl, rfl, hb⟩
      have Q1 := Lib.hid (Q0.out.below hb)
      clear hb
      go_wp2_with fail
      refine (goodMode_c p m _).mono ?_
      rintro e w' ⟨rfl, rfl⟩
      rw [HG.out]
      go_wp2_with fail
      have Qd := Lib.hid Q1.out.drew
      have hne : ∀ b0 ∈ ([(w.heap.size, 25, #[.bool n, .int .u64 a, .int .u64 b, .int .i64 (q : Int)])] : List (Nat × TypeId × Array Value)), b0.1 ≠ w.heap.size + 1 := by simp
      refine wp_region_ord (S := fun W => HB w [(w.heap.size, 25, #[.bool n, .int .u64 a, .int .u64 b, .int .i64 (q : Int)])] W) (by kernel_rfl) ?_
      refine ord_take (v := ?_) (i := 0) (fuel := 20) (by simp; rfl) (by kernel_rfl) (by kernel_rfl) (by kernel_rfl) (Or.inl ⟨by rfl, fun w' hSw => ?_⟩) Qd.out.1 ?_
      rotate_left
      · go_simp
        all_goals with_reducible rfl
      simp only [Act.put, List.setIfInBounds_toArray, List.set_cons_zero, List.set_cons_succ]
      refine ord_take (v := ?_) (i := 2) (fuel := 19) (by simp; rfl) (by kernel_rfl) (by kernel_rfl) (by kernel_rfl) (Or.inl ⟨by rfl, fun w' hSw => ?_⟩) Qd.out.1 ?_
      rotate_left
      · go_simp
        all_goals with_reducible rfl
      simp only [Act.put, List.setIfInBounds_toArray, List.set_cons_zero, List.set_cons_succ]
      refine ord_take (v := ?_) (i := 4) (fuel := 18) (by simp; rfl) (by kernel_rfl) (by kernel_rfl) (by kernel_rfl) (Or.inl ⟨by rfl, fun w' hSw => ?_⟩) Qd.out.1 ?_
      rotate_left
      · go_simp
        all_goals with_reducible rfl
      simp only [Act.put, List.setIfInBounds_toArray, List.set_cons_zero, List.set_cons_succ]
      refine ord_take (v := ?_) (i := 7) (fuel := 17) (by simp; rfl) (by kernel_rfl) (by kernel_rfl) (by kernel_rfl) (Or.inl ⟨by rfl, fun w' hSw => ?_⟩) Qd.out.1 ?_
      rotate_left
      · go_simp
        all_goals with_reducible rfl
      simp only [Act.put, List.setIfInBounds_toArray, List.set_cons_zero, List.set_cons_succ]
      refine ord_take (v := ?_) (i := 10) (fuel := 16) (by simp; rfl) (by kernel_rfl) (by kernel_rfl) (by kernel_rfl) (Or.inl ⟨by rfl, fun w' hSw => ?_⟩) Qd.out.1 ?_
      rotate_left
      · go_simp
        all_goals with_reducible rfl
      simp only [Act.put, List.setIfInBounds_toArray, List.set_cons_zero, List.set_cons_succ]
      refine ord_take (v := ?_) (i := 13) (fuel := 15) (by simp; rfl) (by kernel_rfl) (by kernel_rfl) (by kernel_rfl) (Or.inl ⟨by rfl, fun w' hSw => ?_⟩) Qd.out.1 ?_
      rotate_left
      · go_simp
        all_goals with_reducible rfl
      simp only [Act.put, List.setIfInBounds_toArray, List.set_cons_zero, List.set_cons_succ]
      refine ord_take (v := ?_) (i := 15) (fuel := 14) (by simp; rfl) (by kernel_rfl) (by kernel_rfl) (by kernel_rfl) (Or.inl ⟨by rfl, fun w' hSw => ?_⟩) Qd.out.1 ?_
      rotate_left
      · go_simp
        all_goals with_reducible rfl
      simp only [Act.put, List.setIfInBounds_toArray, List.set_cons_zero, List.set_cons_succ]
      refine ord_take (v := ?_) (i := 1) (fuel := 13) (by simp; rfl) (by kernel_rfl) (by kernel_rfl) (by kernel_rfl) (Or.inl ⟨by rfl, fun w' hSw => ?_⟩) Qd.out.1 ?_
      rotate_left
      · dsimp only at hSw
        obtain ⟨ql, q0, q1, q2, q3⟩ := HB.dec (t := 25) (g := w.heap.size) (a := .bool n) (b := .int .u64 a) (c := .int .u64 b) (d := .int .i64 (q : Int)) hSw (by simp)
        go_simp
        all_goals with_reducible rfl
      simp only [Act.put, List.setIfInBounds_toArray, List.set_cons_zero, List.set_cons_succ]
      refine ord_take (v := ?_) (i := 3) (fuel := 12) (by simp; rfl) (by kernel_rfl) (by kernel_rfl) (by kernel_rfl) (Or.inl ⟨by rfl, fun w' hSw => ?_⟩) Qd.out.1 ?_
      rotate_left
      · dsimp only at hSw
        obtain ⟨ql, q0, q1, q2, q3⟩ := HB.dec (t := 25) (g := w.heap.size) (a := .bool n) (b := .int .u64 a) (c := .int .u64 b) (d := .int .i64 (q : Int)) hSw (by simp)
        go_simp
        all_goals with_reducible rfl
      simp only [Act.put, List.setIfInBounds_toArray, List.set_cons_zero, List.set_cons_succ]
      refine ord_take (v := ?_) (i := 5) (fuel := 11) (by simp; rfl) (by kernel_rfl) (by kernel_rfl) (by kernel_rfl) (Or.inl ⟨by rfl, fun w' hSw => ?_⟩) Qd.out.1 ?_
      rotate_left
      · dsimp only at hSw
        obtain ⟨ql, q0, q1, q2, q3⟩ := HB.dec (t := 25) (g := w.heap.size) (a := .bool n) (b := .int .u64 a) (c := .int .u64 b) (d := .int .i64 (q : Int)) hSw (by simp)
        go_simp
        all_goals with_reducible rfl
      simp only [Act.put, List.setIfInBounds_toArray, List.set_cons_zero, List.set_cons_succ]
      refine ord_take (v := ?_) (i := 11) (fuel := 10) (by simp; rfl) (by kernel_rfl) (by kernel_rfl) (by kernel_rfl) (Or.inl ⟨by rfl, fun w' hSw => ?_⟩) Qd.out.1 ?_
      rotate_left
      · dsimp only at hSw
        obtain ⟨ql, q0, q1, q2, q3⟩ := HB.dec (t := 25) (g := w.heap.size) (a := .bool n) (b := .int .u64 a) (c := .int .u64 b) (d := .int .i64 (q : Int)) hSw (by simp)
        go_simp
        all_goals with_reducible rfl
      simp only [Act.put, List.setIfInBounds_toArray, List.set_cons_zero, List.set_cons_succ]
      refine ord_call (f := 32) (args := #[.agg #[.int .u64 a, .int .u64 b]]) (w1 := w1.drew) (i := 6) (fuel := 9) (by simp; rfl) (by kernel_rfl) (by rfl) ?_ ?_
      · go_simp
        all_goals with_reducible rfl
      refine (nat2_c a b _ ha hb1).mono ?_
      rintro e x2 ⟨A2, n2, k2, d2, ⟨D2, N2, E2⟩, rfl, hb⟩
      have Q2 := Lib.hid (Qd.out.below hb)
      have l2 := few_60 D2 N2 (k := 30) (by rw [E2]; exact h30.out) (by omega)
      clear hb
      refine ⟨_, rfl, Q2.out.1, ?_⟩
      simp only [Act.put, List.setIfInBounds_toArray, List.set_cons_zero, List.set_cons_succ]
      refine ord_call (f := 33) (args := #[.int .i64 (p : Int)]) (w1 := x2) (i := 8) (fuel := 8) (by simp; rfl) (by kernel_rfl) (by rfl) ?_ ?_
      · go_simp
        all_goals with_reducible rfl
      refine (tenNat_c p (by omega) _).mono ?_
      rintro e x3 ⟨A3, n3, k3, d3, ⟨D3, N3, E3⟩, rfl, hb⟩
      have Q3 := Lib.hid (Q2.out.below hb)
      have l3 := few_60 D3 N3 (k := 10) (by rw [E3]; exact pow_lt_pow (by omega)) (by omega)
      have D2b := D2.below hb
      clear hb
      refine ⟨_, rfl, Q3.out.1, ?_⟩
      simp only [Act.put, List.setIfInBounds_toArray, List.set_cons_zero, List.set_cons_succ]
      refine ord_call (f := 31) (args := #[.slice A2 n2 k2, .slice A3 n3 k3]) (w1 := x3) (i := 9) (fuel := 7) (by simp; rfl) (by kernel_rfl) (by rfl) ?_ ?_
      · go_simp
        all_goals with_reducible rfl
      refine (mulNat_c A2 A3 n2 n3 k2 k3 d2 d3 _ D2b D3 (by omega) (by omega)).mono ?_
      rintro e x4 ⟨A4, n4, k4, d4, ⟨D4, N4, E4⟩, rfl, hb⟩
      have Q4 := Lib.hid (Q3.out.below hb)
      rw [E2, E3] at E4
      have l4 := few_60 D4 N4 (k := 40) (by rw [E4]; exact mul_pow_lt (x := 30) (y := 10) h30.out (pow_lt_pow (by omega))) (by omega)
      clear hb
      refine ⟨_, rfl, Q4.out.1, ?_⟩
      simp only [Act.put, List.setIfInBounds_toArray, List.set_cons_zero, List.set_cons_succ]
      refine ord_call (f := 33) (args := #[.int .i64 (q : Int)]) (w1 := x4) (i := 12) (fuel := 6) (by simp; rfl) (by kernel_rfl) (by rfl) ?_ ?_
      · go_simp
        all_goals with_reducible rfl
      refine (tenNat_c q (by omega) _).mono ?_
      rintro e x5 ⟨A5, n5, k5, d5, ⟨D5, N5, E5⟩, rfl, hb⟩
      have Q5 := Lib.hid (Q4.out.below hb)
      have l5 := few_60 D5 N5 (k := 10) (by rw [E5]; exact pow_lt_pow (by omega)) (by omega)
      have D4b := D4.below hb
      clear hb
      refine ⟨_, rfl, Q5.out.1, ?_⟩
      simp only [Act.put, List.setIfInBounds_toArray, List.set_cons_zero, List.set_cons_succ]
      refine ord_call (f := 30) (args := #[.bool n, .slice A4 n4 k4, .slice A5 n5 k5, .int .i64 m]) (w1 := x5) (i := 14) (fuel := 5) (by simp; rfl) (by kernel_rfl) (by rfl) ?_ ?_
      · go_simp
        all_goals with_reducible rfl
      refine (rrounded_c n A4 A5 n4 n5 k4 k5 d4 d5 m _ D4b D5 N5 (by omega) (by omega) (by rw [E5]; exact Nat.pow_pos (by decide)) HM.out).mono ?_
      rintro e x6 ⟨A6, n6, k6, d6, ⟨D6, N6, E6⟩, rfl, hb⟩
      have Q6 := Lib.hid (Q5.out.below hb)
      rw [E4, E5] at E6
      clear hb
      refine ⟨_, rfl, Q6.out.1, ?_⟩
      simp only [Act.put, List.setIfInBounds_toArray, List.set_cons_zero, List.set_cons_succ]
      refine ord_call (f := 29) (args := #[.bool n, .slice A6 n6 k6, .int .i64 (p : Int)]) (w1 := x6) (i := 16) (fuel := 4) (by simp; rfl) (by kernel_rfl) (by rfl) ?_ ?_
      · go_simp
        all_goals with_reducible rfl
      clear D2 D3 D4 D5 D2b D4b N2 N3 N4 N5 E2 E3 E4 E5
      refine (make_all n A6 n6 k6 d6 _ (p : Int) _ D6 N6 E6).mono ?_
      rintro e x9 ⟨_, ⟨m4, c4, d4, q4, e4, D4, rfl⟩, rfl, hb⟩
      have Q9 := Lib.hid (Q6.out.below hb)
      have HD4 := Lib.hid D4
      clear hb D4
      refine ⟨_, rfl, Q9.out.1, ?_⟩
      simp only [Act.put, List.setIfInBounds_toArray, List.set_cons_zero, List.set_cons_succ]
      refine ord_take (v := ?_) (i := 17) (fuel := 3) (by simp; rfl) (by kernel_rfl) (by kernel_rfl) (by kernel_rfl) (Or.inl ⟨by rfl, fun w' hSw => ?_⟩) Q9.out.1 ?_
      rotate_left
      · go_simp
        all_goals with_reducible rfl
      simp only [Act.put, List.setIfInBounds_toArray, List.set_cons_zero, List.set_cons_succ]
      refine ord_take (v := ?_) (i := 18) (fuel := 2) (by simp; rfl) (by kernel_rfl) (by kernel_rfl) (by kernel_rfl) (Or.inl ⟨by rfl, fun w' hSw => ?_⟩) Q9.out.1 ?_
      rotate_left
      · go_simp
        all_goals with_reducible rfl
      simp only [Act.put, List.setIfInBounds_toArray, List.set_cons_zero, List.set_cons_succ]
      obtain ⟨lz, ⟨z0, z1, z2, z3⟩, y0, y1, y2, y3⟩ := blk_c4 Q9.out.2
      have VS1 := HB.set4 (a' := .bool m4) (b' := .int .u64 c4) (c' := .int .u64 d4) (d' := .int .i64 q4) Q9.out.1 Q9.out.2 (by omega) hne
      have VS := HB.sub (bs' := [(w.heap.size, 25, #[.bool n, .int .u64 a, .int .u64 b, .int .i64 (q : Int)])]) VS1 (by simp)
      refine ord_skip (w' := ((((x9.setCell ⟨w.heap.size + 1, 0, none⟩ (.bool m4)).setCell ⟨w.heap.size + 1, 1, none⟩ (.int .u64 c4)).setCell ⟨w.heap.size + 1, 2, none⟩ (.int .u64 d4)).setCell ⟨w.heap.size + 1, 3, none⟩ (.int .i64 q4))) (i := 19) (fuel := 1) (by simp; rfl) (by kernel_rfl) (by rfl) (by rfl) ?_ VS ?_
      · go_simp
        all_goals with_reducible rfl
      refine ord_take (v := ?_) (i := 20) (fuel := 0) (by simp; rfl) (by kernel_rfl) (by kernel_rfl) (by kernel_rfl) (Or.inl ⟨by rfl, fun w' hSw => ?_⟩) VS ?_
      rotate_left
      · go_simp
        all_goals with_reducible rfl
      simp only [Act.put, List.setIfInBounds_toArray, List.set_cons_zero, List.set_cons_succ]
      obtain ⟨lt, t0, t1, t2, t3⟩ := HB.dec (t := 25) (g := w.heap.size + 1) (a := .bool m4) (b := .int .u64 c4) (c := .int .u64 d4) (d := .int .i64 q4) VS1 (by simp)
      have HB1 := Lib.hid VS.1
      clear VS VS1 lz z0 z1 z2 z3 y0 y1 y2 y3
      refine ord_done (by kernel_rfl) ?_ _
      go_wp2
      exact bodyPost_ret (v := .tuple #[.agg #[.bool m4, .int .u64 c4, .int .u64 d4, .int .i64 q4], .int .i64 e4]) (by simp [results, Try.results10, go_sem, t0, t1, t2, t3]) rfl ⟨_, ⟨_, _, _, _, _, HD4.out, rfl⟩, rfl, HB1.out⟩
    · have HG := Lib.hid (decide_eq_false hg)
      have HV := Lib.hid (show quantV n a b s t m = errV 1 by unfold quantV; rw [if_neg (fun h => hg h.2)])
      rw [HV.out]
      clear hr hg
      go_enter Try.func10, Try.ntmps10
      go_wp2_with fail
      refine (rdec_v n a b s true _ ha hb1 HR.out).mono ?_
      rintro e w1 ⟨_, rfl, rfl, hb⟩
      have Q1 := Lib.hid (Q0.out.below hb)
      clear hb
      go_wp2_with fail
      refine (goodMode_c t m _).mono ?_
      rintro e w' ⟨rfl, rfl⟩
      rw [HG.out]
      obtain ⟨lz, ⟨z0, z1, z2, z3⟩, y0, y1, y2, y3⟩ := blk_c4 Q1.out.2
      have HBB := Lib.hid Q1.out.1.1
      go_wp2
      exact bodyPost_ret (v := .tuple #[.agg #[.bool false, .int .u64 0, .int .u64 0, .int .i64 0], .int .i64 1]) (by simp [results, Try.results10, go_sem, z0, z1, z2, z3]) rfl ⟨_, ans_err 1, rfl, bel4 HBB.out (by omega)⟩
  · have HR := Lib.hid (decide_eq_false hr)
    have HV := Lib.hid (show quantV n a b s t m = errV 1 by unfold quantV; rw [if_neg (fun h => hr h.1)])
    rw [HV.out]
    clear hr
    go_enter Try.func10, Try.ntmps10
    go_wp2_with fail
    refine (rdec_v n a b s false _ ha hb1 HR.out).mono ?_
    rintro e w1 ⟨_, rfl, rfl, hb⟩
    have Q1 := Lib.hid (Q0.out.below hb)
    clear hb
    obtain ⟨lz, ⟨z0, z1, z2, z3⟩, y0, y1, y2, y3⟩ := blk_c4 Q1.out.2
    have HBB := Lib.hid Q1.out.1.1
    go_wp2
    exact bodyPost_ret (v := .tuple #[.agg #[.bool false, .int .u64 0, .int .u64 0, .int .i64 0], .int .i64 1]) (by simp [results, Try.results10, go_sem, z0, z1, z2, z3]) rfl ⟨_, ans_err 1, rfl, bel4 HBB.out (by omega)⟩
end Go.Proofs.Ytkaflkofffgndaa

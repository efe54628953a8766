/- Package pyxref1: Unit, at any decimals. -/
import Derived.Test.YtkaflkofffgndaaRefX
namespace Go.Proofs.Ytkaflkofffgndaa
open Go.RowKit
theorem rd_le' (n : Bool) (A P : Nat) (m : Int) : roundN n A P m ≤ A + 1 := by
  unfold roundN
  have := Nat.div_le_self A P
  split <;> omega
set_option maxRecDepth 100000 in
set_option maxHeartbeats 6400000 in
theorem runit_all (n : Bool) (a b s : Int) (n' : Bool) (a' b' s' m : Int) (w : World) (ha : U64 a) (hb1 : U64 b) (ha' : U64 a') (hb1' : U64 b') :
    Calls Try.prog 13 #[.agg #[.bool n, .int .u64 a, .int .u64 b, .int .i64 s], .agg #[.bool n', .int .u64 a', .int .u64 b', .int .i64 s'], .int .i64 m] w (Ret w (Ans (unitV n a b s n' a' b' s' m))) := by
  have Q0 := Lib.hid (QS.two w n a b s n' a' b' s')
  by_cases hr : RightD n a b s
  · have HR := Lib.hid (decide_eq_true hr)
    by_cases hr' : RightD n' a' b' s'
    · have HR' := Lib.hid (decide_eq_true hr')
      by_cases hg : GoodM 0 m
      · have HG := Lib.hid (decide_eq_true hg)
        have HM := Lib.hid hg.modes
        by_cases hs0 : 0 < signV n' a' b' s'
        · obtain ⟨q, rfl⟩ : ∃ q : Nat, s = (q : Int) := ⟨s.toNat, by have := hr.2.1; omega⟩
          obtain ⟨r, rfl⟩ : ∃ r : Nat, s' = (r : Int) := ⟨s'.toNat, by have := hr'.2.1; omega⟩
          have hq9 : q ≤ 9 := by have := hr.2.2.1; omega
          have hr9 : r ≤ 9 := by have := hr'.2.2.1; omega
          have h30 := Lib.hid hr.1
          have h30' := Lib.hid hr'.1
          have hzp : 0 < v2 a' b' := by
            unfold signV at hs0
            rw [if_pos hr'] at hs0
            rcases Nat.eq_zero_or_pos (v2 a' b') with e | e
            · rw [e] at hs0; unfold zOf at hs0; cases n' <;> simp at hs0
            · exact e
          have HV := Lib.hid (show unitV n a b q n' a' b' r m = chkV n (roundN n (v2 a b * 10 ^ r) (v2 a' b' * 10 ^ q) m * v2 a' b') r by
            unfold unitV
            rw [if_pos ⟨hr, hr', hg, hs0⟩]
            simp only [Int.toNat_natCast])
          rw [HV.out]
          obtain ⟨σ, hσ⟩ : ∃ σ, signV n' a' b' r = σ := ⟨_, rfl⟩
          rw [hσ] at hs0
          have HSG := Lib.hid hσ
          clear hr hr' hg hσ
          go_enter Try.func13, Try.ntmps13
          go_wp2_with fail
          refine (rdec_v n a b (q : Int) true _ ha hb1 HR.out).mono ?_
          rintro e w1 ⟨_, rfl, rfl, hb⟩
          have Q1 := Lib.hid (Q0.out.below hb)
          clear hb
          obtain ⟨lq, q0, q1, q2, q3⟩ := HB.dec (t := 25) (g := w.heap.size + 1) (a := .bool n') (b := .int .u64 a') (c := .int .u64 b') (d := .int .i64 (r : Int)) Q1.out.1 (by simp)
          go_wp2_with fail
          refine (rdec_v n' a' b' (r : Int) true _ ha' hb1' HR'.out).mono ?_
          rintro e w2 ⟨_, rfl, rfl, hb⟩
          have Q2 := Lib.hid (Q1.out.below hb)
          clear hb lq q0 q1 q2 q3
          go_wp2_with fail
          refine (goodMode_c 0 m _).mono ?_
          rintro e w' ⟨rfl, rfl⟩
          rw [HG.out]
          obtain ⟨lq, q0, q1, q2, q3⟩ := HB.dec (t := 25) (g := w.heap.size + 1) (a := .bool n') (b := .int .u64 a') (c := .int .u64 b') (d := .int .i64 (r : Int)) Q2.out.1 (by simp)
          go_wp2_with fail
          refine (rsign_all n' a' b' (r : Int) _ ha' hb1').mono ?_
          rintro e w3 ⟨_, rfl, rfl, hb⟩
          rw [HSG.out]
          have Q3 := Lib.hid (Q2.out.below hb)
          clear hb lq q0 q1 q2 q3
          have hne : ∀ b0 ∈ ([(w.heap.size + 1, 25, #[.bool n', .int .u64 a', .int .u64 b', .int .i64 (r : Int)]), (w.heap.size, 25, #[.bool n, .int .u64 a, .int .u64 b, .int .i64 (q : Int)])] : List (Nat × TypeId × Array Value)), b0.1 ≠ w.heap.size + 1 + 1 := by intro b0 hb0; simp at hb0; rcases hb0 with rfl | rfl <;> simp <;> omega
          go_wp2_with fail
          have Qd := Lib.hid Q3.out.drew
          refine wp_region_ord (S := fun W => HB w [(w.heap.size + 1, 25, #[.bool n', .int .u64 a', .int .u64 b', .int .i64 (r : Int)]), (w.heap.size, 25, #[.bool n, .int .u64 a, .int .u64 b, .int .i64 (q : Int)])] W) (by kernel_rfl) ?_
          refine ord_take (v := ?_) (i := 0) (fuel := 18) (by simp; rfl) (by kernel_rfl) (by kernel_rfl) (by kernel_rfl) (Or.inl ⟨by rfl, fun w' hSw => ?_⟩) Qd.out.1 ?_
          rotate_left
          · go_simp
            all_goals with_reducible rfl
          simp only [Act.put, List.setIfInBounds_toArray, List.set_cons_zero, List.set_cons_succ]
          refine ord_take (v := ?_) (i := 2) (fuel := 17) (by simp; rfl) (by kernel_rfl) (by kernel_rfl) (by kernel_rfl) (Or.inl ⟨by rfl, fun w' hSw => ?_⟩) Qd.out.1 ?_
          rotate_left
          · go_simp
            all_goals with_reducible rfl
          simp only [Act.put, List.setIfInBounds_toArray, List.set_cons_zero, List.set_cons_succ]
          refine ord_take (v := ?_) (i := 5) (fuel := 16) (by simp; rfl) (by kernel_rfl) (by kernel_rfl) (by kernel_rfl) (Or.inl ⟨by rfl, fun w' hSw => ?_⟩) Qd.out.1 ?_
          rotate_left
          · go_simp
            all_goals with_reducible rfl
          simp only [Act.put, List.setIfInBounds_toArray, List.set_cons_zero, List.set_cons_succ]
          refine ord_take (v := ?_) (i := 9) (fuel := 15) (by simp; rfl) (by kernel_rfl) (by kernel_rfl) (by kernel_rfl) (Or.inl ⟨by rfl, fun w' hSw => ?_⟩) Qd.out.1 ?_
          rotate_left
          · go_simp
            all_goals with_reducible rfl
          simp only [Act.put, List.setIfInBounds_toArray, List.set_cons_zero, List.set_cons_succ]
          refine ord_take (v := ?_) (i := 12) (fuel := 14) (by simp; rfl) (by kernel_rfl) (by kernel_rfl) (by kernel_rfl) (Or.inl ⟨by rfl, fun w' hSw => ?_⟩) Qd.out.1 ?_
          rotate_left
          · go_simp
            all_goals with_reducible rfl
          simp only [Act.put, List.setIfInBounds_toArray, List.set_cons_zero, List.set_cons_succ]
          refine ord_take (v := ?_) (i := 16) (fuel := 13) (by simp; rfl) (by kernel_rfl) (by kernel_rfl) (by kernel_rfl) (Or.inl ⟨by rfl, fun w' hSw => ?_⟩) Qd.out.1 ?_
          rotate_left
          · go_simp
            all_goals with_reducible rfl
          simp only [Act.put, List.setIfInBounds_toArray, List.set_cons_zero, List.set_cons_succ]
          refine ord_take (v := ?_) (i := 1) (fuel := 12) (by simp; rfl) (by kernel_rfl) (by kernel_rfl) (by kernel_rfl) (Or.inl ⟨by rfl, fun w' hSw => ?_⟩) Qd.out.1 ?_
          rotate_left
          · dsimp only at hSw
            obtain ⟨pl, p0, p1, p2, p3⟩ := HB.dec (t := 25) (g := w.heap.size) (a := .bool n) (b := .int .u64 a) (c := .int .u64 b) (d := .int .i64 (q : Int)) hSw (by simp)
            obtain ⟨ql, q0, q1, q2, q3⟩ := HB.dec (t := 25) (g := w.heap.size + 1) (a := .bool n') (b := .int .u64 a') (c := .int .u64 b') (d := .int .i64 (r : Int)) hSw (by simp)
            go_simp
            all_goals with_reducible rfl
          simp only [Act.put, List.setIfInBounds_toArray, List.set_cons_zero, List.set_cons_succ]
          refine ord_take (v := ?_) (i := 3) (fuel := 11) (by simp; rfl) (by kernel_rfl) (by kernel_rfl) (by kernel_rfl) (Or.inl ⟨by rfl, fun w' hSw => ?_⟩) Qd.out.1 ?_
          rotate_left
          · dsimp only at hSw
            obtain ⟨pl, p0, p1, p2, p3⟩ := HB.dec (t := 25) (g := w.heap.size) (a := .bool n) (b := .int .u64 a) (c := .int .u64 b) (d := .int .i64 (q : Int)) hSw (by simp)
            obtain ⟨ql, q0, q1, q2, q3⟩ := HB.dec (t := 25) (g := w.heap.size + 1) (a := .bool n') (b := .int .u64 a') (c := .int .u64 b') (d := .int .i64 (r : Int)) hSw (by simp)
            go_simp
            all_goals with_reducible rfl
          simp only [Act.put, List.setIfInBounds_toArray, List.set_cons_zero, List.set_cons_succ]
          refine ord_take (v := ?_) (i := 6) (fuel := 10) (by simp; rfl) (by kernel_rfl) (by kernel_rfl) (by kernel_rfl) (Or.inl ⟨by rfl, fun w' hSw => ?_⟩) Qd.out.1 ?_
          rotate_left
          · dsimp only at hSw
            obtain ⟨pl, p0, p1, p2, p3⟩ := HB.dec (t := 25) (g := w.heap.size) (a := .bool n) (b := .int .u64 a) (c := .int .u64 b) (d := .int .i64 (q : Int)) hSw (by simp)
            obtain ⟨ql, q0, q1, q2, q3⟩ := HB.dec (t := 25) (g := w.heap.size + 1) (a := .bool n') (b := .int .u64 a') (c := .int .u64 b') (d := .int .i64 (r : Int)) hSw (by simp)
            go_simp
            all_goals with_reducible rfl
          simp only [Act.put, List.setIfInBounds_toArray, List.set_cons_zero, List.set_cons_succ]
          refine ord_take (v := ?_) (i := 10) (fuel := 9) (by simp; rfl) (by kernel_rfl) (by kernel_rfl) (by kernel_rfl) (Or.inl ⟨by rfl, fun w' hSw => ?_⟩) Qd.out.1 ?_
          rotate_left
          · dsimp only at hSw
            obtain ⟨pl, p0, p1, p2, p3⟩ := HB.dec (t := 25) (g := w.heap.size) (a := .bool n) (b := .int .u64 a) (c := .int .u64 b) (d := .int .i64 (q : Int)) hSw (by simp)
            obtain ⟨ql, q0, q1, q2, q3⟩ := HB.dec (t := 25) (g := w.heap.size + 1) (a := .bool n') (b := .int .u64 a') (c := .int .u64 b') (d := .int .i64 (r : Int)) hSw (by simp)
            go_simp
            all_goals with_reducible rfl
          simp only [Act.put, List.setIfInBounds_toArray, List.set_cons_zero, List.set_cons_succ]
          refine ord_take (v := ?_) (i := 13) (fuel := 8) (by simp; rfl) (by kernel_rfl) (by kernel_rfl) (by kernel_rfl) (Or.inl ⟨by rfl, fun w' hSw => ?_⟩) Qd.out.1 ?_
          rotate_left
          · dsimp only at hSw
            obtain ⟨pl, p0, p1, p2, p3⟩ := HB.dec (t := 25) (g := w.heap.size) (a := .bool n) (b := .int .u64 a) (c := .int .u64 b) (d := .int .i64 (q : Int)) hSw (by simp)
            obtain ⟨ql, q0, q1, q2, q3⟩ := HB.dec (t := 25) (g := w.heap.size + 1) (a := .bool n') (b := .int .u64 a') (c := .int .u64 b') (d := .int .i64 (r : Int)) hSw (by simp)
            go_simp
            all_goals with_reducible rfl
          simp only [Act.put, List.setIfInBounds_toArray, List.set_cons_zero, List.set_cons_succ]
          refine ord_call (f := 32) (args := #[.agg #[.int .u64 a, .int .u64 b]]) (w1 := w3.drew) (i := 4) (fuel := 7) (by simp; rfl) (by kernel_rfl) (by rfl) ?_ ?_
          · go_simp
            all_goals with_reducible rfl
          refine (nat2_c a b _ ha hb1).mono ?_
          rintro e x2 ⟨A2, n2, k2, d2, ⟨D2, N2, E2⟩, rfl, hb⟩
          have Q2 := Lib.hid (Qd.out.below hb)
          have l2 := few_60 D2 N2 (k := 30) (by rw [E2]; exact h30.out) (by omega)
          clear hb
          refine ⟨_, rfl, Q2.out.1, ?_⟩
          simp only [Act.put, List.setIfInBounds_toArray, List.set_cons_zero, List.set_cons_succ]
          refine ord_call (f := 33) (args := #[.int .i64 (r : Int)]) (w1 := x2) (i := 7) (fuel := 6) (by simp; rfl) (by kernel_rfl) (by rfl) ?_ ?_
          · go_simp
            all_goals with_reducible rfl
          refine (tenNat_c r (by omega) _).mono ?_
          rintro e x3 ⟨A3, n3, k3, d3, ⟨D3, N3, E3⟩, rfl, hb⟩
          have Q3 := Lib.hid (Q2.out.below hb)
          have l3 := few_60 D3 N3 (k := 10) (by rw [E3]; exact pow_lt_pow (by omega)) (by omega)
          have D2b := D2.below hb
          clear hb
          refine ⟨_, rfl, Q3.out.1, ?_⟩
          simp only [Act.put, List.setIfInBounds_toArray, List.set_cons_zero, List.set_cons_succ]
          refine ord_call (f := 31) (args := #[.slice A2 n2 k2, .slice A3 n3 k3]) (w1 := x3) (i := 8) (fuel := 5) (by simp; rfl) (by kernel_rfl) (by rfl) ?_ ?_
          · go_simp
            all_goals with_reducible rfl
          refine (mulNat_c A2 A3 n2 n3 k2 k3 d2 d3 _ D2b D3 (by omega) (by omega)).mono ?_
          rintro e x4 ⟨A4, n4, k4, d4, ⟨D4, N4, E4⟩, rfl, hb⟩
          have Q4 := Lib.hid (Q3.out.below hb)
          rw [E2, E3] at E4
          have l4 := few_60 D4 N4 (k := 40) (by rw [E4]; exact mul_pow_lt (x := 30) (y := 10) h30.out (pow_lt_pow (by omega))) (by omega)
          clear hb
          refine ⟨_, rfl, Q4.out.1, ?_⟩
          simp only [Act.put, List.setIfInBounds_toArray, List.set_cons_zero, List.set_cons_succ]
          refine ord_call (f := 32) (args := #[.agg #[.int .u64 a', .int .u64 b']]) (w1 := x4) (i := 11) (fuel := 4) (by simp; rfl) (by kernel_rfl) (by rfl) ?_ ?_
          · go_simp
            all_goals with_reducible rfl
          refine (nat2_c a' b' _ ha' hb1').mono ?_
          rintro e x5 ⟨A5, n5, k5, d5, ⟨D5, N5, E5⟩, rfl, hb⟩
          have Q5 := Lib.hid (Q4.out.below hb)
          have l5 := few_60 D5 N5 (k := 30) (by rw [E5]; exact h30'.out) (by omega)
          have D4b := D4.below hb
          clear hb
          refine ⟨_, rfl, Q5.out.1, ?_⟩
          simp only [Act.put, List.setIfInBounds_toArray, List.set_cons_zero, List.set_cons_succ]
          refine ord_call (f := 33) (args := #[.int .i64 (q : Int)]) (w1 := x5) (i := 14) (fuel := 3) (by simp; rfl) (by kernel_rfl) (by rfl) ?_ ?_
          · go_simp
            all_goals with_reducible rfl
          refine (tenNat_c q (by omega) _).mono ?_
          rintro e x6 ⟨A6, n6, k6, d6, ⟨D6, N6, E6⟩, rfl, hb⟩
          have Q6 := Lib.hid (Q5.out.below hb)
          have l6 := few_60 D6 N6 (k := 10) (by rw [E6]; exact pow_lt_pow (by omega)) (by omega)
          have D4c := D4b.below hb
          have D5b := D5.below hb
          clear hb
          refine ⟨_, rfl, Q6.out.1, ?_⟩
          simp only [Act.put, List.setIfInBounds_toArray, List.set_cons_zero, List.set_cons_succ]
          refine ord_call (f := 31) (args := #[.slice A5 n5 k5, .slice A6 n6 k6]) (w1 := x6) (i := 15) (fuel := 2) (by simp; rfl) (by kernel_rfl) (by rfl) ?_ ?_
          · go_simp
            all_goals with_reducible rfl
          refine (mulNat_c A5 A6 n5 n6 k5 k6 d5 d6 _ D5b D6 (by omega) (by omega)).mono ?_
          rintro e x7 ⟨A7, n7, k7, d7, ⟨D7, N7, E7⟩, rfl, hb⟩
          have Q7 := Lib.hid (Q6.out.below hb)
          rw [E5, E6] at E7
          have l7 := few_60 D7 N7 (k := 40) (by rw [E7]; exact mul_pow_lt (x := 30) (y := 10) h30'.out (pow_lt_pow (by omega))) (by omega)
          have D4d := D4c.below hb
          clear hb
          refine ⟨_, rfl, Q7.out.1, ?_⟩
          simp only [Act.put, List.setIfInBounds_toArray, List.set_cons_zero, List.set_cons_succ]
          refine ord_call (f := 30) (args := #[.bool n, .slice A4 n4 k4, .slice A7 n7 k7, .int .i64 m]) (w1 := x7) (i := 17) (fuel := 1) (by simp; rfl) (by kernel_rfl) (by rfl) ?_ ?_
          · go_simp
            all_goals with_reducible rfl
          refine (rrounded_c n A4 A7 n4 n7 k4 k7 d4 d7 m _ D4d D7 N7 (by omega) (by omega) (by rw [E7]; exact Nat.mul_pos hzp (Nat.pow_pos (by decide))) HM.out).mono ?_
          rintro e x8 ⟨A8, n8, k8, d8, ⟨D8, N8, E8⟩, rfl, hb⟩
          have Q8 := Lib.hid (Q7.out.below hb)
          rw [E4, E7] at E8
          clear hb
          refine ⟨_, rfl, Q8.out.1, ?_⟩
          simp only [Act.put, List.setIfInBounds_toArray, List.set_cons_zero, List.set_cons_succ]
          refine ord_take (v := ?_) (i := 18) (fuel := 0) (by simp; rfl) (by kernel_rfl) (by kernel_rfl) (by kernel_rfl) (Or.inl ⟨by rfl, fun w' hSw => ?_⟩) Q8.out.1 ?_
          rotate_left
          · go_simp
            all_goals with_reducible rfl
          simp only [Act.put, List.setIfInBounds_toArray, List.set_cons_zero, List.set_cons_succ]
          refine ord_done (by kernel_rfl) ?_ _
          have l8 : n8 ≤ 100 := lenA D8 N8 (by
            rw [E8]
            have h1 := rd_le' n (v2 a b * 10 ^ r) (v2 a' b' * 10 ^ q) m
            have h2 := mul_pow_lt (x := 30) (y := 10) h30.out (pow_lt_pow (show r < 10 by omega))
            exact Nat.lt_of_le_of_lt h1 (Nat.lt_of_le_of_lt (Nat.succ_le_of_lt h2) (pow_lt_pow (by omega))))
          clear D2 D3 D4 D5 D6 D7 D2b D4b D4c D4d D5b N2 N3 N4 N5 N6 N7 E2 E3 E4 E5 E6 E7
          go_wp2_with fail
          have Qe := Lib.hid Q8.out.drew
          have D8d := D8.drew
          refine wp_region_ord (S := fun W => HB w [(w.heap.size + 1, 25, #[.bool n', .int .u64 a', .int .u64 b', .int .i64 (r : Int)]), (w.heap.size, 25, #[.bool n, .int .u64 a, .int .u64 b, .int .i64 (q : Int)])] W) (by kernel_rfl) ?_
          refine ord_take (v := ?_) (i := 0) (fuel := 13) (by simp; rfl) (by kernel_rfl) (by kernel_rfl) (by kernel_rfl) (Or.inl ⟨by rfl, fun w' hSw => ?_⟩) Qe.out.1 ?_
          rotate_left
          · go_simp
            all_goals with_reducible rfl
          simp only [Act.put, List.setIfInBounds_toArray, List.set_cons_zero, List.set_cons_succ]
          refine ord_take (v := ?_) (i := 2) (fuel := 12) (by simp; rfl) (by kernel_rfl) (by kernel_rfl) (by kernel_rfl) (Or.inl ⟨by rfl, fun w' hSw => ?_⟩) Qe.out.1 ?_
          rotate_left
          · go_simp
            all_goals with_reducible rfl
          simp only [Act.put, List.setIfInBounds_toArray, List.set_cons_zero, List.set_cons_succ]
          refine ord_take (v := ?_) (i := 3) (fuel := 11) (by simp; rfl) (by kernel_rfl) (by kernel_rfl) (by kernel_rfl) (Or.inl ⟨by rfl, fun w' hSw => ?_⟩) Qe.out.1 ?_
          rotate_left
          · go_simp
            all_goals with_reducible rfl
          simp only [Act.put, List.setIfInBounds_toArray, List.set_cons_zero, List.set_cons_succ]
          refine ord_take (v := ?_) (i := 7) (fuel := 10) (by simp; rfl) (by kernel_rfl) (by kernel_rfl) (by kernel_rfl) (Or.inl ⟨by rfl, fun w' hSw => ?_⟩) Qe.out.1 ?_
          rotate_left
          · go_simp
            all_goals with_reducible rfl
          simp only [Act.put, List.setIfInBounds_toArray, List.set_cons_zero, List.set_cons_succ]
          refine ord_take (v := ?_) (i := 1) (fuel := 9) (by simp; rfl) (by kernel_rfl) (by kernel_rfl) (by kernel_rfl) (Or.inl ⟨by rfl, fun w' hSw => ?_⟩) Qe.out.1 ?_
          rotate_left
          · dsimp only at hSw
            obtain ⟨pl, p0, p1, p2, p3⟩ := HB.dec (t := 25) (g := w.heap.size) (a := .bool n) (b := .int .u64 a) (c := .int .u64 b) (d := .int .i64 (q : Int)) hSw (by simp)
            obtain ⟨ql, q0, q1, q2, q3⟩ := HB.dec (t := 25) (g := w.heap.size + 1) (a := .bool n') (b := .int .u64 a') (c := .int .u64 b') (d := .int .i64 (r : Int)) hSw (by simp)
            go_simp
            all_goals with_reducible rfl
          simp only [Act.put, List.setIfInBounds_toArray, List.set_cons_zero, List.set_cons_succ]
          refine ord_take (v := ?_) (i := 4) (fuel := 8) (by simp; rfl) (by kernel_rfl) (by kernel_rfl) (by kernel_rfl) (Or.inl ⟨by rfl, fun w' hSw => ?_⟩) Qe.out.1 ?_
          rotate_left
          · dsimp only at hSw
            obtain ⟨pl, p0, p1, p2, p3⟩ := HB.dec (t := 25) (g := w.heap.size) (a := .bool n) (b := .int .u64 a) (c := .int .u64 b) (d := .int .i64 (q : Int)) hSw (by simp)
            obtain ⟨ql, q0, q1, q2, q3⟩ := HB.dec (t := 25) (g := w.heap.size + 1) (a := .bool n') (b := .int .u64 a') (c := .int .u64 b') (d := .int .i64 (r : Int)) hSw (by simp)
            go_simp
            all_goals with_reducible rfl
          simp only [Act.put, List.setIfInBounds_toArray, List.set_cons_zero, List.set_cons_succ]
          refine ord_take (v := ?_) (i := 8) (fuel := 7) (by simp; rfl) (by kernel_rfl) (by kernel_rfl) (by kernel_rfl) (Or.inl ⟨by rfl, fun w' hSw => ?_⟩) Qe.out.1 ?_
          rotate_left
          · dsimp only at hSw
            obtain ⟨pl, p0, p1, p2, p3⟩ := HB.dec (t := 25) (g := w.heap.size) (a := .bool n) (b := .int .u64 a) (c := .int .u64 b) (d := .int .i64 (q : Int)) hSw (by simp)
            obtain ⟨ql, q0, q1, q2, q3⟩ := HB.dec (t := 25) (g := w.heap.size + 1) (a := .bool n') (b := .int .u64 a') (c := .int .u64 b') (d := .int .i64 (r : Int)) hSw (by simp)
            go_simp
            all_goals with_reducible rfl
          simp only [Act.put, List.setIfInBounds_toArray, List.set_cons_zero, List.set_cons_succ]
          refine ord_call (f := 32) (args := #[.agg #[.int .u64 a', .int .u64 b']]) (w1 := x8.drew) (i := 5) (fuel := 6) (by simp; rfl) (by kernel_rfl) (by rfl) ?_ ?_
          · go_simp
            all_goals with_reducible rfl
          refine (nat2_c a' b' _ ha' hb1').mono ?_
          rintro e x2 ⟨A2, n2, k2, d2, ⟨D2, N2, E2⟩, rfl, hb⟩
          have Q2 := Lib.hid (Qe.out.below hb)
          have l2 := few_60 D2 N2 (k := 30) (by rw [E2]; exact h30'.out) (by omega)
          have D8e := D8d.below hb
          clear hb
          refine ⟨_, rfl, Q2.out.1, ?_⟩
          simp only [Act.put, List.setIfInBounds_toArray, List.set_cons_zero, List.set_cons_succ]
          refine ord_call (f := 31) (args := #[.slice A8 n8 k8, .slice A2 n2 k2]) (w1 := x2) (i := 6) (fuel := 5) (by simp; rfl) (by kernel_rfl) (by rfl) ?_ ?_
          · go_simp
            all_goals with_reducible rfl
          refine (mulNat_c A8 A2 n8 n2 k8 k2 d8 d2 _ D8e D2 (by omega) (by omega)).mono ?_
          rintro e x3 ⟨A3, n3, k3, d3, ⟨D3, N3, E3⟩, rfl, hb⟩
          have Q3 := Lib.hid (Q2.out.below hb)
          rw [E8, E2] at E3
          clear hb
          refine ⟨_, rfl, Q3.out.1, ?_⟩
          simp only [Act.put, List.setIfInBounds_toArray, List.set_cons_zero, List.set_cons_succ]
          refine ord_call (f := 29) (args := #[.bool n, .slice A3 n3 k3, .int .i64 (r : Int)]) (w1 := x3) (i := 9) (fuel := 4) (by simp; rfl) (by kernel_rfl) (by rfl) ?_ ?_
          · go_simp
            all_goals with_reducible rfl
          refine (make_all n A3 n3 k3 d3 _ (r : Int) _ D3 N3 E3).mono ?_
          rintro e x9 ⟨_, ⟨m4, c4, d4, q4, e4, D4, rfl⟩, rfl, hb⟩
          have Q9 := Lib.hid (Q3.out.below hb)
          have HD4 := Lib.hid D4
          clear hb D4
          refine ⟨_, rfl, Q9.out.1, ?_⟩
          simp only [Act.put, List.setIfInBounds_toArray, List.set_cons_zero, List.set_cons_succ]
          refine ord_take (v := ?_) (i := 10) (fuel := 3) (by simp; rfl) (by kernel_rfl) (by kernel_rfl) (by kernel_rfl) (Or.inl ⟨by rfl, fun w' hSw => ?_⟩) Q9.out.1 ?_
          rotate_left
          · go_simp
            all_goals with_reducible rfl
          simp only [Act.put, List.setIfInBounds_toArray, List.set_cons_zero, List.set_cons_succ]
          refine ord_take (v := ?_) (i := 11) (fuel := 2) (by simp; rfl) (by kernel_rfl) (by kernel_rfl) (by kernel_rfl) (Or.inl ⟨by rfl, fun w' hSw => ?_⟩) Q9.out.1 ?_
          rotate_left
          · go_simp
            all_goals with_reducible rfl
          simp only [Act.put, List.setIfInBounds_toArray, List.set_cons_zero, List.set_cons_succ]
          obtain ⟨lz, ⟨z0, z1, z2, z3⟩, y0, y1, y2, y3⟩ := blk_c4 Q9.out.2
          have VS1 := HB.set4 (a' := .bool m4) (b' := .int .u64 c4) (c' := .int .u64 d4) (d' := .int .i64 q4) Q9.out.1 Q9.out.2 (by omega) hne
          have VS := HB.sub (bs' := [(w.heap.size + 1, 25, #[.bool n', .int .u64 a', .int .u64 b', .int .i64 (r : Int)]), (w.heap.size, 25, #[.bool n, .int .u64 a, .int .u64 b, .int .i64 (q : Int)])]) VS1 (by simp)
          refine ord_skip (w' := ((((x9.setCell ⟨w.heap.size + 1 + 1, 0, none⟩ (.bool m4)).setCell ⟨w.heap.size + 1 + 1, 1, none⟩ (.int .u64 c4)).setCell ⟨w.heap.size + 1 + 1, 2, none⟩ (.int .u64 d4)).setCell ⟨w.heap.size + 1 + 1, 3, none⟩ (.int .i64 q4))) (i := 12) (fuel := 1) (by simp; rfl) (by kernel_rfl) (by rfl) (by rfl) ?_ VS ?_
          · go_simp
            all_goals with_reducible rfl
          refine ord_take (v := ?_) (i := 13) (fuel := 0) (by simp; rfl) (by kernel_rfl) (by kernel_rfl) (by kernel_rfl) (Or.inl ⟨by rfl, fun w' hSw => ?_⟩) VS ?_
          rotate_left
          · go_simp
            all_goals with_reducible rfl
          simp only [Act.put, List.setIfInBounds_toArray, List.set_cons_zero, List.set_cons_succ]
          obtain ⟨lt, t0, t1, t2, t3⟩ := HB.dec (t := 25) (g := w.heap.size + 1 + 1) (a := .bool m4) (b := .int .u64 c4) (c := .int .u64 d4) (d := .int .i64 q4) VS1 (by simp)
          have HB1 := Lib.hid VS.1
          clear VS VS1 lz z0 z1 z2 z3 y0 y1 y2 y3
          refine ord_done (by kernel_rfl) ?_ _
          go_wp2
          exact bodyPost_ret (v := .tuple #[.agg #[.bool m4, .int .u64 c4, .int .u64 d4, .int .i64 q4], .int .i64 e4]) (by simp [results, Try.results13, go_sem, t0, t1, t2, t3]) rfl ⟨_, ⟨_, _, _, _, _, HD4.out, rfl⟩, rfl, HB1.out⟩
        · have HV := Lib.hid (show unitV n a b s n' a' b' s' m = errV 1 by unfold unitV; rw [if_neg (fun h => hs0 h.2.2.2)])
          rw [HV.out]
          obtain ⟨σ, hσ⟩ : ∃ σ, signV n' a' b' s' = σ := ⟨_, rfl⟩
          rw [hσ] at hs0
          have HSG := Lib.hid hσ
          clear hr hr' hg hσ
          go_enter Try.func13, Try.ntmps13
          go_wp2_with fail
          refine (rdec_v n a b s true _ ha hb1 HR.out).mono ?_
          rintro e w1 ⟨_, rfl, rfl, hb⟩
          have Q1 := Lib.hid (Q0.out.below hb)
          clear hb
          obtain ⟨lq, q0, q1, q2, q3⟩ := HB.dec (t := 25) (g := w.heap.size + 1) (a := .bool n') (b := .int .u64 a') (c := .int .u64 b') (d := .int .i64 s') Q1.out.1 (by simp)
          go_wp2_with fail
          refine (rdec_v n' a' b' s' true _ ha' hb1' HR'.out).mono ?_
          rintro e w2 ⟨_, rfl, rfl, hb⟩
          have Q2 := Lib.hid (Q1.out.below hb)
          clear hb lq q0 q1 q2 q3
          go_wp2_with fail
          refine (goodMode_c 0 m _).mono ?_
          rintro e w' ⟨rfl, rfl⟩
          rw [HG.out]
          obtain ⟨lq, q0, q1, q2, q3⟩ := HB.dec (t := 25) (g := w.heap.size + 1) (a := .bool n') (b := .int .u64 a') (c := .int .u64 b') (d := .int .i64 s') Q2.out.1 (by simp)
          go_wp2_with fail
          refine (rsign_all n' a' b' s' _ ha' hb1').mono ?_
          rintro e w3 ⟨_, rfl, rfl, hb⟩
          rw [HSG.out]
          have Q3 := Lib.hid (Q2.out.below hb)
          clear hb lq q0 q1 q2 q3
          obtain ⟨lz, ⟨z0, z1, z2, z3⟩, y0, y1, y2, y3⟩ := blk_c4 Q3.out.2
          have HBB := Lib.hid Q3.out.1.1
          go_wp2
          exact bodyPost_ret (v := .tuple #[.agg #[.bool false, .int .u64 0, .int .u64 0, .int .i64 0], .int .i64 1]) (by simp [results, Try.results13, go_sem, z0, z1, z2, z3]) rfl ⟨_, ans_err 1, rfl, bel4 HBB.out (by omega)⟩
      · have HG := Lib.hid (decide_eq_false hg)
        have HV := Lib.hid (show unitV n a b s n' a' b' s' m = errV 1 by unfold unitV; rw [if_neg (fun h => hg h.2.2.1)])
        rw [HV.out]
        clear hr hr' hg
        go_enter Try.func13, Try.ntmps13
        go_wp2_with fail
        refine (rdec_v n a b s true _ ha hb1 HR.out).mono ?_
        rintro e w1 ⟨_, rfl, rfl, hb⟩
        have Q1 := Lib.hid (Q0.out.below hb)
        clear hb
        obtain ⟨lq, q0, q1, q2, q3⟩ := HB.dec (t := 25) (g := w.heap.size + 1) (a := .bool n') (b := .int .u64 a') (c := .int .u64 b') (d := .int .i64 s') Q1.out.1 (by simp)
        go_wp2_with fail
        refine (rdec_v n' a' b' s' true _ ha' hb1' HR'.out).mono ?_
        rintro e w2 ⟨_, rfl, rfl, hb⟩
        have Q2 := Lib.hid (Q1.out.below hb)
        clear hb lq q0 q1 q2 q3
        go_wp2_with fail
        refine (goodMode_c 0 m _).mono ?_
        rintro e w' ⟨rfl, rfl⟩
        rw [HG.out]
        obtain ⟨lz, ⟨z0, z1, z2, z3⟩, y0, y1, y2, y3⟩ := blk_c4 Q2.out.2
        have HBB := Lib.hid Q2.out.1.1
        go_wp2
        exact bodyPost_ret (v := .tuple #[.agg #[.bool false, .int .u64 0, .int .u64 0, .int .i64 0], .int .i64 1]) (by simp [results, Try.results13, go_sem, z0, z1, z2, z3]) rfl ⟨_, ans_err 1, rfl, bel4 HBB.out (by omega)⟩
    · have HR' := Lib.hid (decide_eq_false hr')
      have HV := Lib.hid (show unitV n a b s n' a' b' s' m = errV 1 by unfold unitV; rw [if_neg (fun h => hr' h.2.1)])
      rw [HV.out]
      clear hr hr'
      go_enter Try.func13, Try.ntmps13
      go_wp2_with fail
      refine (rdec_v n a b s true _ ha hb1 HR.out).mono ?_
      rintro e w1 ⟨_, rfl, rfl, hb⟩
      have Q1 := Lib.hid (Q0.out.below hb)
      clear hb
      obtain ⟨lq, q0, q1, q2, q3⟩ := HB.dec (t := 25) (g := w.heap.size + 1) (a := .bool n') (b := .int .u64 a') (c := .int .u64 b') (d := .int .i64 s') Q1.out.1 (by simp)
      go_wp2_with fail
      refine (rdec_v n' a' b' s' false _ ha' hb1' HR'.out).mono ?_
      rintro e w2 ⟨_, rfl, rfl, hb⟩
      have Q2 := Lib.hid (Q1.out.below hb)
      clear hb lq q0 q1 q2 q3
      obtain ⟨lz, ⟨z0, z1, z2, z3⟩, y0, y1, y2, y3⟩ := blk_c4 Q2.out.2
      have HBB := Lib.hid Q2.out.1.1
      go_wp2
      exact bodyPost_ret (v := .tuple #[.agg #[.bool false, .int .u64 0, .int .u64 0, .int .i64 0], .int .i64 1]) (by simp [results, Try.results13, go_sem, z0, z1, z2, z3]) rfl ⟨_, ans_err 1, rfl, bel4 HBB.out (by omega)⟩
  · have HR := Lib.hid (decide_eq_false hr)
    have HV := Lib.hid (show unitV n a b s n' a' b' s' m = errV 1 by unfold unitV; rw [if_neg (fun h => hr h.1)])
    rw [HV.out]
    clear hr
    go_enter Try.func13, Try.ntmps13
    go_wp2_with fail
    refine (rdec_v n a b s false _ ha hb1 HR.out).mono ?_
    rintro e w1 ⟨_, rfl, rfl, hb⟩
    have Q1 := Lib.hid (Q0.out.below hb)
    clear hb
    obtain ⟨lz, ⟨z0, z1, z2, z3⟩, y0, y1, y2, y3⟩ := blk_c4 Q1.out.2
    have HBB := Lib.hid Q1.out.1.1
    go_wp2
    exact bodyPost_ret (v := .tuple #[.agg #[.bool false, .int .u64 0, .int .u64 0, .int .i64 0], .int .i64 1]) (by simp [results, Try.results13, go_sem, z0, z1, z2, z3]) rfl ⟨_, ans_err 1, rfl, bel4 HBB.out (by omega)⟩
end Go.Proofs.Ytkaflkofffgndaa

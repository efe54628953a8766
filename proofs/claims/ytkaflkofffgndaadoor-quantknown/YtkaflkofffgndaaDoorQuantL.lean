/- Package quant: Div at any decimals. -/
import Derived.Test.YtkaflkofffgndaaDoorQuantK
import Derived.Test.YtkaflkofffgndaaDoorQuantS
import Derived.Test.YtkaflkofffgndaaDoorDecJ
namespace Go.Proofs.YtkaflkofffgndaaDoor
open Go.RowKit
set_option maxRecDepth 100000 in
set_option maxHeartbeats 6400000 in
theorem div_all (n : Bool) (a b s : Int) (n' : Bool) (a' b' s' t m : Int) (w : World) (ha : U64 a) (hb1 : U64 b) (ha' : U64 a') (hb1' : U64 b') :
    Calls Tryd.prog 6 #[.agg #[.bool n, .int .u64 a, .int .u64 b, .int .i64 s], .agg #[.bool n', .int .u64 a', .int .u64 b', .int .i64 s'], .int .i64 t, .int .i64 m] w (Ret w (Ans (divV n a b s n' a' b' s' t m))) := by
  have Q0 := Lib.hid (QS.two w n a b s n' a' b' s')
  by_cases hr : RightD n a b s
  · have HR := Lib.hid (decide_eq_true hr)
    by_cases hr' : RightD n' a' b' s'
    · have HR' := Lib.hid (decide_eq_true hr')
      by_cases hg : GoodM t m
      · have HG := Lib.hid (decide_eq_true hg)
        have HM := Lib.hid hg.modes
        have h30 := Lib.hid hr.1
        have h0 := hr.2.1
        have h9 := hr.2.2.1
        have h0' := hr'.2.1
        have h9' := hr'.2.2.1
        have ht0 := hg.1
        have ht9 := hg.2.1
        by_cases hz : v2 a' b' = 0
        · have HV := Lib.hid (show divV n a b s n' a' b' s' t m = errV 4 by unfold divV; rw [if_pos ⟨hr, hr', hg⟩, if_pos hz])
          rw [HV.out]
          have heq : eqW2 a' b' 0 0 = true := by rw [eqW2_0 ha' hb1']; exact decide_eq_true hz
          clear hr hr' hg
          go_enter Tryd.func6, Tryd.ntmps6
          go_wp2_with fail
          refine (right_c n a b s _ ha hb1).mono ?_
          rintro e w1 ⟨_, rfl, rfl, hb⟩
          rw [HR.out]
          have Q1 := Lib.hid (Q0.out.below hb)
          clear hb
          obtain ⟨lq, q0, q1, q2, q3⟩ := HB.dec (t := 27) (g := w.heap.size + 1) (a := .bool n') (b := .int .u64 a') (c := .int .u64 b') (d := .int .i64 s') Q1.out.1 (by simp)
          go_wp2_with fail
          refine (right_c n' a' b' s' _ ha' hb1').mono ?_
          rintro e w2 ⟨_, rfl, rfl, hb⟩
          rw [HR'.out]
          have Q2 := Lib.hid (Q1.out.below hb)
          clear hb lq q0 q1 q2 q3
          go_wp2_with fail
          refine (qknown_all t m _).mono ?_
          rintro e w' ⟨rfl, rfl⟩
          rw [HG.out]
          go_wp2_with fail
          have Qd := Lib.hid Q2.out.drew
          refine wp_region_det (S := QS w (w.heap.size + 1 + 1) [(w.heap.size + 1, 27, #[.bool n', .int .u64 a', .int .u64 b', .int .i64 s']), (w.heap.size, 27, #[.bool n, .int .u64 a, .int .u64 b, .int .i64 s])]) (by kernel_rfl) Qd.out ?_
          refine det_take (v := ?_) (i := 0) (fuel := 3) (by simp; rfl) (by kernel_rfl) (by kernel_rfl) (by kernel_rfl) (Or.inl ⟨by rfl, fun w' hS => Or.inl ⟨w', ?_, hS⟩⟩) ?_
          rotate_left
          · go_simp
            all_goals with_reducible rfl
          simp only [Act.put, List.setIfInBounds_toArray, List.set_cons_zero, List.set_cons_succ]
          refine det_take (v := ?_) (i := 1) (fuel := 2) (by simp; rfl) (by kernel_rfl) (by kernel_rfl) (by kernel_rfl) (Or.inl ⟨by rfl, fun w' hS => Or.inl ⟨w', ?_, hS⟩⟩) ?_
          rotate_left
          · obtain ⟨lq, q0, q1, q2, q3⟩ := HB.dec (t := 27) (g := w.heap.size + 1) (a := .bool n') (b := .int .u64 a') (c := .int .u64 b') (d := .int .i64 s') hS.1 (by simp)
            go_simp
            all_goals with_reducible rfl
          simp only [Act.put, List.setIfInBounds_toArray, List.set_cons_zero, List.set_cons_succ]
          refine det_take (v := ?_) (i := 2) (fuel := 1) (by simp; rfl) (by kernel_rfl) (by kernel_rfl) (by kernel_rfl) (Or.inl ⟨by rfl, fun w' hS => Or.inr ⟨12, #[.int .u64 0], w', ?_, ?_⟩⟩) ?_
          rotate_left
          · go_simp
            all_goals with_reducible rfl
          · exact (of_x 0 w').mono fun e w2 h => ⟨by rw [h.1], h.2 ▸ (hS.below (bel_alloc (Below.refl _ _) _))⟩
          simp only [Act.put, List.setIfInBounds_toArray, List.set_cons_zero, List.set_cons_succ]
          refine det_take (v := ?_) (i := 3) (fuel := 0) (by simp; rfl) (by kernel_rfl) (by kernel_rfl) (by kernel_rfl) (Or.inl ⟨by rfl, fun w' hS => Or.inl ⟨w', ?_, hS⟩⟩) ?_
          rotate_left
          · go_simp
            all_goals with_reducible rfl
          simp only [Act.put, List.setIfInBounds_toArray, List.set_cons_zero, List.set_cons_succ]
          refine det_done (by kernel_rfl) (fun V hV => ?_) _
          have Q3 := Lib.hid hV
          clear hV Q2 Qd
          obtain ⟨lz, ⟨z0, z1, z2, z3⟩, y0, y1, y2, y3⟩ := blk_c4 Q3.out.2
          have HBB := Lib.hid Q3.out.1.1
          go_wp2
          exact bodyPost_ret (v := .tuple #[.agg #[.bool false, .int .u64 0, .int .u64 0, .int .i64 0], .int .i64 4]) (by simp [results, Tryd.results6, go_sem, z0, z1, z2, z3]) rfl ⟨_, ans_err 4, rfl, bel4 HBB.out (by omega)⟩
        · have hne : eqW2 a' b' 0 0 = false := by rw [eqW2_0 ha' hb1']; exact decide_eq_false hz
          have HV := Lib.hid (show divV n a b s n' a' b' s' t m = chkV (n != n') (roundN (n != n') (v2 a b * 10 ^ (t + s' - s).toNat) (v2 a' b' * 10 ^ (-(t + s' - s)).toNat) m) t by
            unfold divV
            rw [if_pos ⟨hr, hr', hg⟩, if_neg hz, div_pow _ _ _ _ _ _ _ h0 h0' ht0])
          rw [HV.out]
          have hzp := Nat.pos_of_ne_zero hz
          have h30' := Lib.hid hr'.1
          have hk1 : -9 ≤ t + s' - s := by omega
          have hk2 : t + s' - s ≤ 18 := by omega
          obtain ⟨O, hO⟩ : ∃ O, 10 ^ (t + s' - s).toNat = O := ⟨_, rfl⟩
          obtain ⟨P, hP⟩ : ∃ P, 10 ^ (-(t + s' - s)).toNat = P := ⟨_, rfl⟩
          have HP9 := Lib.hid (show 0 < P ∧ (340282366920938463463374607431768211456 ≤ v2 a' b' * P → O = 1) by
            refine ⟨by rw [← hP]; exact Nat.pow_pos (by decide), fun hbig => ?_⟩
            rcases (by omega : t + s' - s ≤ 0 ∨ 0 ≤ t + s' - s) with hk | hk
            · rw [← hO, show (t + s' - s).toNat = 0 by omega]
            · exfalso
              have e : P = 1 := by rw [← hP, show (-(t + s' - s)).toNat = 0 by omega]
              rw [e] at hbig
              have := h30'.out
              omega)
          have RT := Lib.hid (fun w' => tens_c (t + s' - s) w' hk1 hk2)
          rw [hO, hP] at RT ⊢
          clear hr hr' hg hz hO hP
          go_enter Tryd.func6, Tryd.ntmps6
          go_wp2_with fail
          refine (right_c n a b s _ ha hb1).mono ?_
          rintro e w1 ⟨_, rfl, rfl, hb⟩
          rw [HR.out]
          have Q1 := Lib.hid (Q0.out.below hb)
          clear hb
          obtain ⟨lq, q0, q1, q2, q3⟩ := HB.dec (t := 27) (g := w.heap.size + 1) (a := .bool n') (b := .int .u64 a') (c := .int .u64 b') (d := .int .i64 s') Q1.out.1 (by simp)
          go_wp2_with fail
          refine (right_c n' a' b' s' _ ha' hb1').mono ?_
          rintro e w2 ⟨_, rfl, rfl, hb⟩
          rw [HR'.out]
          have Q2 := Lib.hid (Q1.out.below hb)
          clear hb lq q0 q1 q2 q3
          go_wp2_with fail
          refine (qknown_all t m _).mono ?_
          rintro e w' ⟨rfl, rfl⟩
          rw [HG.out]
          go_wp2_with fail
          have Qd := Lib.hid Q2.out.drew
          refine wp_region_det (S := QS w (w.heap.size + 1 + 1) [(w.heap.size + 1, 27, #[.bool n', .int .u64 a', .int .u64 b', .int .i64 s']), (w.heap.size, 27, #[.bool n, .int .u64 a, .int .u64 b, .int .i64 s])]) (by kernel_rfl) Qd.out ?_
          refine det_take (v := ?_) (i := 0) (fuel := 3) (by simp; rfl) (by kernel_rfl) (by kernel_rfl) (by kernel_rfl) (Or.inl ⟨by rfl, fun w' hS => Or.inl ⟨w', ?_, hS⟩⟩) ?_
          rotate_left
          · go_simp
            all_goals with_reducible rfl
          simp only [Act.put, List.setIfInBounds_toArray, List.set_cons_zero, List.set_cons_succ]
          refine det_take (v := ?_) (i := 1) (fuel := 2) (by simp; rfl) (by kernel_rfl) (by kernel_rfl) (by kernel_rfl) (Or.inl ⟨by rfl, fun w' hS => Or.inl ⟨w', ?_, hS⟩⟩) ?_
          rotate_left
          · obtain ⟨lq, q0, q1, q2, q3⟩ := HB.dec (t := 27) (g := w.heap.size + 1) (a := .bool n') (b := .int .u64 a') (c := .int .u64 b') (d := .int .i64 s') hS.1 (by simp)
            go_simp
            all_goals with_reducible rfl
          simp only [Act.put, List.setIfInBounds_toArray, List.set_cons_zero, List.set_cons_succ]
          refine det_take (v := ?_) (i := 2) (fuel := 1) (by simp; rfl) (by kernel_rfl) (by kernel_rfl) (by kernel_rfl) (Or.inl ⟨by rfl, fun w' hS => Or.inr ⟨12, #[.int .u64 0], w', ?_, ?_⟩⟩) ?_
          rotate_left
          · go_simp
            all_goals with_reducible rfl
          · exact (of_x 0 w').mono fun e w2 h => ⟨by rw [h.1], h.2 ▸ (hS.below (bel_alloc (Below.refl _ _) _))⟩
          simp only [Act.put, List.setIfInBounds_toArray, List.set_cons_zero, List.set_cons_succ]
          refine det_take (v := ?_) (i := 3) (fuel := 0) (by simp; rfl) (by kernel_rfl) (by kernel_rfl) (by kernel_rfl) (Or.inl ⟨by rfl, fun w' hS => Or.inl ⟨w', ?_, hS⟩⟩) ?_
          rotate_left
          · go_simp
            all_goals with_reducible rfl
          simp only [Act.put, List.setIfInBounds_toArray, List.set_cons_zero, List.set_cons_succ]
          refine det_done (by kernel_rfl) (fun V hV => ?_) _
          have Q3 := Lib.hid hV
          obtain ⟨w3, rfl⟩ : ∃ x : World, x = V := ⟨_, rfl⟩
          clear hV Q2 Qd
          obtain ⟨lp, p0, p1, p2, p3⟩ := HB.dec (t := 27) (g := w.heap.size) (a := .bool n) (b := .int .u64 a) (c := .int .u64 b) (d := .int .i64 s) Q3.out.1 (by simp)
          obtain ⟨lq, q0, q1, q2, q3⟩ := HB.dec (t := 27) (g := w.heap.size + 1) (a := .bool n') (b := .int .u64 a') (c := .int .u64 b') (d := .int .i64 s') Q3.out.1 (by simp)
          go_wp2_with fail
          refine (RT.out _).mono ?_
          rintro e w4 ⟨_, ⟨o0, o1, v0, v1, ⟨ho0, ho1, eo⟩, ⟨hv0, hv1, ev⟩, rfl⟩, rfl, hb⟩
          have q4 := ((Q3.out.below hb).push #[.int .u64 o0, .int .u64 o1] 25).push #[.int .u64 v0, .int .u64 v1] 25
          simp only [World.size_alloc] at q4
          have EO := Lib.hid eo
          have EV := Lib.hid ev
          have hlt4 := (Q3.out.below hb).2.lt
          obtain ⟨go, hgo⟩ : ∃ g, w4.heap.size = g := ⟨_, rfl⟩
          rw [hgo] at q4 hlt4
          obtain ⟨W4, hW4⟩ : ∃ x, (w4.alloc (.cells #[.int .u64 o0, .int .u64 o1] 25)).alloc (.cells #[.int .u64 v0, .int .u64 v1] 25) = x := ⟨_, rfl⟩
          rw [hW4] at q4
          have Q4 := Lib.hid q4
          clear hb lp p0 p1 p2 p3 lq q0 q1 q2 q3 eo ev Q3 q4
          obtain ⟨lq, q0, q1, q2, q3⟩ := HB.dec (t := 27) (g := w.heap.size + 1) (a := .bool n') (b := .int .u64 a') (c := .int .u64 b') (d := .int .i64 s') Q4.out.1 (by simp)
          obtain ⟨ul, uu0, uu1⟩ := HB.two (t := 25) (g := go + 1) (a := .int .u64 v0) (b := .int .u64 v1) Q4.out.1 (by simp)
          go_wp2_with fail
          clear hgo hW4
          refine (mul_c a' b' v0 v1 _ ha' hb1' hv0 hv1).mono ?_
          rintro e w5 ⟨_, ⟨c0, c1, c2, c3, HMu, rfl⟩, rfl, hb⟩
          have Q5 := Lib.hid (Q4.out.below hb)
          clear hb lq q0 q1 q2 q3 ul uu0 uu1 Q4
          go_wp2_with fail
          refine (short_c c0 c1 c2 c3 _).mono ?_
          rintro e w6 ⟨_, ⟨e0, e1, p, HS, rfl⟩, rfl, hb⟩
          have q5 := Q5.out.below hb
          have hlt6 : go + 1 < w6.heap.size := (HB.two (t := 25) (g := go + 1) (a := .int .u64 v0) (b := .int .u64 v1) (Q5.out.below hb).1 (by simp)).1
          clear hb Q5
          obtain ⟨gd, hgd⟩ : ∃ g, w6.heap.size = g := ⟨_, rfl⟩
          rw [hgd] at hlt6
          have BP : v2 a' b' * v2 v0 v1 = v2 a' b' * P := by rw [EV.out]
          have hm4 := HMu.2.2.2.2
          rw [BP] at hm4
          have hne2 : ∀ f0 f1 : Int, ∀ b0 ∈ ([(gd, 25, #[.int .u64 f0, .int .u64 f1]), (go, 25, #[.int .u64 o0, .int .u64 o1]), (w.heap.size + 1, 27, #[.bool n', .int .u64 a', .int .u64 b', .int .i64 s']), (w.heap.size, 27, #[.bool n, .int .u64 a, .int .u64 b, .int .i64 s])] : List (Nat × TypeId × Array Value)), b0.1 ≠ w.heap.size + 1 + 1 := by intro f0 f1 b0 hb0; simp at hb0; rcases hb0 with rfl | rfl | rfl | rfl <;> simp <;> omega
          have HNE := Lib.hid hne2
          clear hne2 BP
          rcases HS with ⟨⟨rfl, rfl⟩, rfl, rfl, rfl⟩ | ⟨hnz, rfl, rfl, rfl⟩
          · have HF := Lib.hid (show U64 e0 ∧ U64 e1 ∧ 0 < v2 e0 e1 ∧ roundN (n != n') (v2 a b * O) (v2 e0 e1) m = roundN (n != n') (v2 a b * O) (v2 a' b' * P) m by
              have e : v2 e0 e1 = v2 a' b' * P := by rw [← hm4]; exact (v4_lo2 e0 e1).symm
              exact ⟨HMu.1, HMu.2.1, by rw [e]; exact Nat.mul_pos hzp HP9.out.1, by rw [e]⟩)
            have q6 := q5.push #[.int .u64 e0, .int .u64 e1] 25
            obtain ⟨W6, hW6⟩ : ∃ x, w6.alloc (.cells #[.int .u64 e0, .int .u64 e1] 25) = x := ⟨_, rfl⟩
            rw [hgd, hW6] at q6
            have Q6 := Lib.hid (q6.sub (L' := [(gd, 25, #[.int .u64 e0, .int .u64 e1]), (go, 25, #[.int .u64 o0, .int .u64 o1]), (w.heap.size + 1, 27, #[.bool n', .int .u64 a', .int .u64 b', .int .i64 s']), (w.heap.size, 27, #[.bool n, .int .u64 a, .int .u64 b, .int .i64 s])]) (by simp))
            clear q5 q6 HMu hm4
            go_wp2_with fail
            have hne := HNE.out e0 e1
            have Qd := Lib.hid Q6.out.drew
            refine wp_region_ord (S := fun W => HB w [(gd, 25, #[.int .u64 e0, .int .u64 e1]), (go, 25, #[.int .u64 o0, .int .u64 o1]), (w.heap.size + 1, 27, #[.bool n', .int .u64 a', .int .u64 b', .int .i64 s']), (w.heap.size, 27, #[.bool n, .int .u64 a, .int .u64 b, .int .i64 s])] W) (by kernel_rfl) ?_
            refine ord_take (v := ?_) (i := 0) (fuel := 16) (by simp; rfl) (by kernel_rfl) (by kernel_rfl) (by kernel_rfl) (Or.inl ⟨by rfl, fun w' hSw => ?_⟩) Qd.out.1 ?_
            rotate_left
            · go_simp
              all_goals with_reducible rfl
            simp only [Act.put, List.setIfInBounds_toArray, List.set_cons_zero, List.set_cons_succ]
            refine ord_take (v := ?_) (i := 2) (fuel := 15) (by simp; rfl) (by kernel_rfl) (by kernel_rfl) (by kernel_rfl) (Or.inl ⟨by rfl, fun w' hSw => ?_⟩) Qd.out.1 ?_
            rotate_left
            · go_simp
              all_goals with_reducible rfl
            simp only [Act.put, List.setIfInBounds_toArray, List.set_cons_zero, List.set_cons_succ]
            refine ord_take (v := ?_) (i := 5) (fuel := 14) (by simp; rfl) (by kernel_rfl) (by kernel_rfl) (by kernel_rfl) (Or.inl ⟨by rfl, fun w' hSw => ?_⟩) Qd.out.1 ?_
            rotate_left
            · go_simp
              all_goals with_reducible rfl
            simp only [Act.put, List.setIfInBounds_toArray, List.set_cons_zero, List.set_cons_succ]
            refine ord_take (v := ?_) (i := 10) (fuel := 13) (by simp; rfl) (by kernel_rfl) (by kernel_rfl) (by kernel_rfl) (Or.inl ⟨by rfl, fun w' hSw => ?_⟩) Qd.out.1 ?_
            rotate_left
            · go_simp
              all_goals with_reducible rfl
            simp only [Act.put, List.setIfInBounds_toArray, List.set_cons_zero, List.set_cons_succ]
            refine ord_take (v := ?_) (i := 11) (fuel := 12) (by simp; rfl) (by kernel_rfl) (by kernel_rfl) (by kernel_rfl) (Or.inl ⟨by rfl, fun w' hSw => ?_⟩) Qd.out.1 ?_
            rotate_left
            · go_simp
              all_goals with_reducible rfl
            simp only [Act.put, List.setIfInBounds_toArray, List.set_cons_zero, List.set_cons_succ]
            refine ord_take (v := ?_) (i := 1) (fuel := 11) (by simp; rfl) (by kernel_rfl) (by kernel_rfl) (by kernel_rfl) (Or.inl ⟨by rfl, fun w' hSw => ?_⟩) Qd.out.1 ?_
            rotate_left
            · dsimp only at hSw
              obtain ⟨pl, p0, p1, p2, p3⟩ := HB.dec (t := 27) (g := w.heap.size) (a := .bool n) (b := .int .u64 a) (c := .int .u64 b) (d := .int .i64 s) hSw (by simp)
              obtain ⟨ql, q0, q1, q2, q3⟩ := HB.dec (t := 27) (g := w.heap.size + 1) (a := .bool n') (b := .int .u64 a') (c := .int .u64 b') (d := .int .i64 s') hSw (by simp)
              obtain ⟨ol, oo0, oo1⟩ := HB.two (t := 25) (g := go) (a := .int .u64 o0) (b := .int .u64 o1) hSw (by simp)
              obtain ⟨fl, ff0, ff1⟩ := HB.two (t := 25) (g := gd) (a := .int .u64 e0) (b := .int .u64 e1) hSw (by simp)
              go_simp
              all_goals with_reducible rfl
            simp only [Act.put, List.setIfInBounds_toArray, List.set_cons_zero, List.set_cons_succ]
            refine ord_take (v := ?_) (i := 3) (fuel := 10) (by simp; rfl) (by kernel_rfl) (by kernel_rfl) (by kernel_rfl) (Or.inl ⟨by rfl, fun w' hSw => ?_⟩) Qd.out.1 ?_
            rotate_left
            · dsimp only at hSw
              obtain ⟨pl, p0, p1, p2, p3⟩ := HB.dec (t := 27) (g := w.heap.size) (a := .bool n) (b := .int .u64 a) (c := .int .u64 b) (d := .int .i64 s) hSw (by simp)
              obtain ⟨ql, q0, q1, q2, q3⟩ := HB.dec (t := 27) (g := w.heap.size + 1) (a := .bool n') (b := .int .u64 a') (c := .int .u64 b') (d := .int .i64 s') hSw (by simp)
              obtain ⟨ol, oo0, oo1⟩ := HB.two (t := 25) (g := go) (a := .int .u64 o0) (b := .int .u64 o1) hSw (by simp)
              obtain ⟨fl, ff0, ff1⟩ := HB.two (t := 25) (g := gd) (a := .int .u64 e0) (b := .int .u64 e1) hSw (by simp)
              go_simp
              all_goals with_reducible rfl
            simp only [Act.put, List.setIfInBounds_toArray, List.set_cons_zero, List.set_cons_succ]
            refine ord_take (v := ?_) (i := 6) (fuel := 9) (by simp; rfl) (by kernel_rfl) (by kernel_rfl) (by kernel_rfl) (Or.inl ⟨by rfl, fun w' hSw => ?_⟩) Qd.out.1 ?_
            rotate_left
            · dsimp only at hSw
              obtain ⟨pl, p0, p1, p2, p3⟩ := HB.dec (t := 27) (g := w.heap.size) (a := .bool n) (b := .int .u64 a) (c := .int .u64 b) (d := .int .i64 s) hSw (by simp)
              obtain ⟨ql, q0, q1, q2, q3⟩ := HB.dec (t := 27) (g := w.heap.size + 1) (a := .bool n') (b := .int .u64 a') (c := .int .u64 b') (d := .int .i64 s') hSw (by simp)
              obtain ⟨ol, oo0, oo1⟩ := HB.two (t := 25) (g := go) (a := .int .u64 o0) (b := .int .u64 o1) hSw (by simp)
              obtain ⟨fl, ff0, ff1⟩ := HB.two (t := 25) (g := gd) (a := .int .u64 e0) (b := .int .u64 e1) hSw (by simp)
              go_simp
              all_goals with_reducible rfl
            simp only [Act.put, List.setIfInBounds_toArray, List.set_cons_zero, List.set_cons_succ]
            refine ord_take (v := ?_) (i := 7) (fuel := 8) (by simp; rfl) (by kernel_rfl) (by kernel_rfl) (by kernel_rfl) (Or.inl ⟨by rfl, fun w' hSw => ?_⟩) Qd.out.1 ?_
            rotate_left
            · dsimp only at hSw
              obtain ⟨pl, p0, p1, p2, p3⟩ := HB.dec (t := 27) (g := w.heap.size) (a := .bool n) (b := .int .u64 a) (c := .int .u64 b) (d := .int .i64 s) hSw (by simp)
              obtain ⟨ql, q0, q1, q2, q3⟩ := HB.dec (t := 27) (g := w.heap.size + 1) (a := .bool n') (b := .int .u64 a') (c := .int .u64 b') (d := .int .i64 s') hSw (by simp)
              obtain ⟨ol, oo0, oo1⟩ := HB.two (t := 25) (g := go) (a := .int .u64 o0) (b := .int .u64 o1) hSw (by simp)
              obtain ⟨fl, ff0, ff1⟩ := HB.two (t := 25) (g := gd) (a := .int .u64 e0) (b := .int .u64 e1) hSw (by simp)
              go_simp
              all_goals with_reducible rfl
            simp only [Act.put, List.setIfInBounds_toArray, List.set_cons_zero, List.set_cons_succ]
            refine ord_take (v := ?_) (i := 9) (fuel := 7) (by simp; rfl) (by kernel_rfl) (by kernel_rfl) (by kernel_rfl) (Or.inl ⟨by rfl, fun w' hSw => ?_⟩) Qd.out.1 ?_
            rotate_left
            · dsimp only at hSw
              obtain ⟨pl, p0, p1, p2, p3⟩ := HB.dec (t := 27) (g := w.heap.size) (a := .bool n) (b := .int .u64 a) (c := .int .u64 b) (d := .int .i64 s) hSw (by simp)
              obtain ⟨ql, q0, q1, q2, q3⟩ := HB.dec (t := 27) (g := w.heap.size + 1) (a := .bool n') (b := .int .u64 a') (c := .int .u64 b') (d := .int .i64 s') hSw (by simp)
              obtain ⟨ol, oo0, oo1⟩ := HB.two (t := 25) (g := go) (a := .int .u64 o0) (b := .int .u64 o1) hSw (by simp)
              obtain ⟨fl, ff0, ff1⟩ := HB.two (t := 25) (g := gd) (a := .int .u64 e0) (b := .int .u64 e1) hSw (by simp)
              go_simp
              all_goals with_reducible rfl
            simp only [Act.put, List.setIfInBounds_toArray, List.set_cons_zero, List.set_cons_succ]
            refine ord_take (v := ?_) (i := 4) (fuel := 6) (by simp; rfl) (by kernel_rfl) (by kernel_rfl) (by kernel_rfl) (Or.inl ⟨by rfl, fun w' hSw => ?_⟩) Qd.out.1 ?_
            rotate_left
            · go_simp
              all_goals with_reducible rfl
            simp only [Act.put, List.setIfInBounds_toArray, List.set_cons_zero, List.set_cons_succ]
            refine ord_call (f := 17) (args := #[.agg #[.int .u64 a, .int .u64 b], .agg #[.int .u64 o0, .int .u64 o1]]) (w1 := W6.drew) (i := 8) (fuel := 5) (by simp; rfl) (by kernel_rfl) (by rfl) ?_ ?_
            · go_simp
              all_goals with_reducible rfl
            refine (mul_c a b o0 o1 _ ha hb1 ho0 ho1).mono ?_
            rintro e x2 ⟨_, ⟨y0, y1, y2, y3, HMv, rfl⟩, rfl, hb⟩
            have Q2 := Lib.hid (Qd.out.below hb)
            have HMV := Lib.hid HMv
            clear hb HMv
            refine ⟨_, rfl, Q2.out.1, ?_⟩
            simp only [Act.put, List.setIfInBounds_toArray, List.set_cons_zero, List.set_cons_succ]
            refine ord_call (f := 18) (args := #[.bool (n != n'), .agg #[.int .u64 y0, .int .u64 y1, .int .u64 y2, .int .u64 y3], .agg #[.int .u64 e0, .int .u64 e1], .int .i64 t, .int .i64 m]) (w1 := x2) (i := 12) (fuel := 4) (by simp; rfl) (by kernel_rfl) (by rfl) ?_ ?_
            · go_simp
              all_goals (try (with_reducible rfl))
              all_goals (cases n <;> cases n' <;> rfl)
            refine (ans_of (rounded_all (n != n') y0 y1 y2 y3 e0 e1 t m _ HMV.out.1 HMV.out.2.1 HMV.out.2.2.1 HMV.out.2.2.2.1 HF.out.1 HF.out.2.1 HF.out.2.2.1 ht0 ht9 HM.out) (by rw [HMV.out.2.2.2.2, EO.out, HF.out.2.2.2])).mono ?_
            rintro e x9 ⟨_, ⟨m4, c4, d4, q4, e4, D4, rfl⟩, rfl, hb⟩
            have Q9 := Lib.hid (Q2.out.below hb)
            have HD4 := Lib.hid D4
            clear hb D4
            refine ⟨_, rfl, Q9.out.1, ?_⟩
            simp only [Act.put, List.setIfInBounds_toArray, List.set_cons_zero, List.set_cons_succ]
            refine ord_take (v := ?_) (i := 13) (fuel := 3) (by simp; rfl) (by kernel_rfl) (by kernel_rfl) (by kernel_rfl) (Or.inl ⟨by rfl, fun w' hSw => ?_⟩) Q9.out.1 ?_
            rotate_left
            · go_simp
              all_goals with_reducible rfl
            simp only [Act.put, List.setIfInBounds_toArray, List.set_cons_zero, List.set_cons_succ]
            refine ord_take (v := ?_) (i := 14) (fuel := 2) (by simp; rfl) (by kernel_rfl) (by kernel_rfl) (by kernel_rfl) (Or.inl ⟨by rfl, fun w' hSw => ?_⟩) Q9.out.1 ?_
            rotate_left
            · go_simp
              all_goals with_reducible rfl
            simp only [Act.put, List.setIfInBounds_toArray, List.set_cons_zero, List.set_cons_succ]
            obtain ⟨lz, ⟨z0, z1, z2, z3⟩, y0, y1, y2, y3⟩ := blk_c4 Q9.out.2
            have VS1 := HB.set4 (a' := .bool m4) (b' := .int .u64 c4) (c' := .int .u64 d4) (d' := .int .i64 q4) Q9.out.1 Q9.out.2 (by omega) hne
            have VS := HB.sub (bs' := [(gd, 25, #[.int .u64 e0, .int .u64 e1]), (go, 25, #[.int .u64 o0, .int .u64 o1]), (w.heap.size + 1, 27, #[.bool n', .int .u64 a', .int .u64 b', .int .i64 s']), (w.heap.size, 27, #[.bool n, .int .u64 a, .int .u64 b, .int .i64 s])]) VS1 (by simp)
            refine ord_skip (w' := ((((x9.setCell ⟨w.heap.size + 1 + 1, 0, none⟩ (.bool m4)).setCell ⟨w.heap.size + 1 + 1, 1, none⟩ (.int .u64 c4)).setCell ⟨w.heap.size + 1 + 1, 2, none⟩ (.int .u64 d4)).setCell ⟨w.heap.size + 1 + 1, 3, none⟩ (.int .i64 q4))) (i := 15) (fuel := 1) (by simp; rfl) (by kernel_rfl) (by rfl) (by rfl) ?_ VS ?_
            · go_simp
              all_goals with_reducible rfl
            refine ord_take (v := ?_) (i := 16) (fuel := 0) (by simp; rfl) (by kernel_rfl) (by kernel_rfl) (by kernel_rfl) (Or.inl ⟨by rfl, fun w' hSw => ?_⟩) VS ?_
            rotate_left
            · go_simp
              all_goals with_reducible rfl
            simp only [Act.put, List.setIfInBounds_toArray, List.set_cons_zero, List.set_cons_succ]
            obtain ⟨lt, t0, t1, t2, t3⟩ := HB.dec (t := 27) (g := w.heap.size + 1 + 1) (a := .bool m4) (b := .int .u64 c4) (c := .int .u64 d4) (d := .int .i64 q4) VS1 (by simp)
            have HB1 := Lib.hid VS.1
            clear VS VS1 lz z0 z1 z2 z3 y0 y1 y2 y3
            refine ord_done (by kernel_rfl) ?_ _
            go_wp2
            exact bodyPost_ret (v := .tuple #[.agg #[.bool m4, .int .u64 c4, .int .u64 d4, .int .i64 q4], .int .i64 e4]) (by simp [results, Tryd.results6, go_sem, t0, t1, t2, t3]) rfl ⟨_, ⟨_, _, _, _, _, HD4.out, rfl⟩, rfl, HB1.out⟩
          · have hbig : 340282366920938463463374607431768211456 ≤ v2 a' b' * P := by
              rw [← hm4]
              have h2 : v2 c2 c3 ≠ 0 := fun h => hnz ((v2_zero HMu.2.2.1 HMu.2.2.2.1).1 h)
              unfold v4
              generalize v2 c0 c1 = X
              generalize v2 c2 c3 = Y at *
              omega
            have HF := Lib.hid (show U64 18446744073709551615 ∧ U64 18446744073709551615 ∧ 0 < v2 18446744073709551615 18446744073709551615 ∧ roundN (n != n') (v2 a b * O) (v2 18446744073709551615 18446744073709551615) m = roundN (n != n') (v2 a b * O) (v2 a' b' * P) m by
              refine ⟨by unfold U64; omega, by unfold U64; omega, by decide, ?_⟩
              rw [HP9.out.2 hbig, Nat.mul_one]
              have h := h30.out
              exact roundN_few _ _ _ _ _ (by rw [show v2 18446744073709551615 18446744073709551615 = 340282366920938463463374607431768211455 from by decide]; omega) (by omega))
            have q6 := q5.push #[.int .u64 18446744073709551615, .int .u64 18446744073709551615] 25
            obtain ⟨W7, hW7⟩ : ∃ x, w6.alloc (.cells #[.int .u64 18446744073709551615, .int .u64 18446744073709551615] 25) = x := ⟨_, rfl⟩
            rw [hgd, hW7] at q6
            have Q6 := Lib.hid (q6.sub (L' := [(gd, 25, #[.int .u64 18446744073709551615, .int .u64 18446744073709551615]), (go, 25, #[.int .u64 o0, .int .u64 o1]), (w.heap.size + 1, 27, #[.bool n', .int .u64 a', .int .u64 b', .int .i64 s']), (w.heap.size, 27, #[.bool n, .int .u64 a, .int .u64 b, .int .i64 s])]) (by simp))
            clear q5 q6 HMu hm4
            go_upto_region 9 with fail
            clear hW7
            go_wp2_with fail
            have hne := HNE.out 18446744073709551615 18446744073709551615
            have Qd := Lib.hid Q6.out.drew
            refine wp_region_ord (S := fun W => HB w [(gd, 25, #[.int .u64 18446744073709551615, .int .u64 18446744073709551615]), (go, 25, #[.int .u64 o0, .int .u64 o1]), (w.heap.size + 1, 27, #[.bool n', .int .u64 a', .int .u64 b', .int .i64 s']), (w.heap.size, 27, #[.bool n, .int .u64 a, .int .u64 b, .int .i64 s])] W) (by kernel_rfl) ?_
            refine ord_take (v := ?_) (i := 0) (fuel := 16) (by simp; rfl) (by kernel_rfl) (by kernel_rfl) (by kernel_rfl) (Or.inl ⟨by rfl, fun w' hSw => ?_⟩) Qd.out.1 ?_
            rotate_left
            · go_simp
              all_goals with_reducible rfl
            simp only [Act.put, List.setIfInBounds_toArray, List.set_cons_zero, List.set_cons_succ]
            refine ord_take (v := ?_) (i := 2) (fuel := 15) (by simp; rfl) (by kernel_rfl) (by kernel_rfl) (by kernel_rfl) (Or.inl ⟨by rfl, fun w' hSw => ?_⟩) Qd.out.1 ?_
            rotate_left
            · go_simp
              all_goals with_reducible rfl
            simp only [Act.put, List.setIfInBounds_toArray, List.set_cons_zero, List.set_cons_succ]
            refine ord_take (v := ?_) (i := 5) (fuel := 14) (by simp; rfl) (by kernel_rfl) (by kernel_rfl) (by kernel_rfl) (Or.inl ⟨by rfl, fun w' hSw => ?_⟩) Qd.out.1 ?_
            rotate_left
            · go_simp
              all_goals with_reducible rfl
            simp only [Act.put, List.setIfInBounds_toArray, List.set_cons_zero, List.set_cons_succ]
            refine ord_take (v := ?_) (i := 10) (fuel := 13) (by simp; rfl) (by kernel_rfl) (by kernel_rfl) (by kernel_rfl) (Or.inl ⟨by rfl, fun w' hSw => ?_⟩) Qd.out.1 ?_
            rotate_left
            · go_simp
              all_goals with_reducible rfl
            simp only [Act.put, List.setIfInBounds_toArray, List.set_cons_zero, List.set_cons_succ]
            refine ord_take (v := ?_) (i := 11) (fuel := 12) (by simp; rfl) (by kernel_rfl) (by kernel_rfl) (by kernel_rfl) (Or.inl ⟨by rfl, fun w' hSw => ?_⟩) Qd.out.1 ?_
            rotate_left
            · go_simp
              all_goals with_reducible rfl
            simp only [Act.put, List.setIfInBounds_toArray, List.set_cons_zero, List.set_cons_succ]
            refine ord_take (v := ?_) (i := 1) (fuel := 11) (by simp; rfl) (by kernel_rfl) (by kernel_rfl) (by kernel_rfl) (Or.inl ⟨by rfl, fun w' hSw => ?_⟩) Qd.out.1 ?_
            rotate_left
            · dsimp only at hSw
              obtain ⟨pl, p0, p1, p2, p3⟩ := HB.dec (t := 27) (g := w.heap.size) (a := .bool n) (b := .int .u64 a) (c := .int .u64 b) (d := .int .i64 s) hSw (by simp)
              obtain ⟨ql, q0, q1, q2, q3⟩ := HB.dec (t := 27) (g := w.heap.size + 1) (a := .bool n') (b := .int .u64 a') (c := .int .u64 b') (d := .int .i64 s') hSw (by simp)
              obtain ⟨ol, oo0, oo1⟩ := HB.two (t := 25) (g := go) (a := .int .u64 o0) (b := .int .u64 o1) hSw (by simp)
              obtain ⟨fl, ff0, ff1⟩ := HB.two (t := 25) (g := gd) (a := .int .u64 18446744073709551615) (b := .int .u64 18446744073709551615) hSw (by simp)
              go_simp
              all_goals with_reducible rfl
            simp only [Act.put, List.setIfInBounds_toArray, List.set_cons_zero, List.set_cons_succ]
            refine ord_take (v := ?_) (i := 3) (fuel := 10) (by simp; rfl) (by kernel_rfl) (by kernel_rfl) (by kernel_rfl) (Or.inl ⟨by rfl, fun w' hSw => ?_⟩) Qd.out.1 ?_
            rotate_left
            · dsimp only at hSw
              obtain ⟨pl, p0, p1, p2, p3⟩ := HB.dec (t := 27) (g := w.heap.size) (a := .bool n) (b := .int .u64 a) (c := .int .u64 b) (d := .int .i64 s) hSw (by simp)
              obtain ⟨ql, q0, q1, q2, q3⟩ := HB.dec (t := 27) (g := w.heap.size + 1) (a := .bool n') (b := .int .u64 a') (c := .int .u64 b') (d := .int .i64 s') hSw (by simp)
              obtain ⟨ol, oo0, oo1⟩ := HB.two (t := 25) (g := go) (a := .int .u64 o0) (b := .int .u64 o1) hSw (by simp)
              obtain ⟨fl, ff0, ff1⟩ := HB.two (t := 25) (g := gd) (a := .int .u64 18446744073709551615) (b := .int .u64 18446744073709551615) hSw (by simp)
              go_simp
              all_goals with_reducible rfl
            simp only [Act.put, List.setIfInBounds_toArray, List.set_cons_zero, List.set_cons_succ]
            refine ord_take (v := ?_) (i := 6) (fuel := 9) (by simp; rfl) (by kernel_rfl) (by kernel_rfl) (by kernel_rfl) (Or.inl ⟨by rfl, fun w' hSw => ?_⟩) Qd.out.1 ?_
            rotate_left
            · dsimp only at hSw
              obtain ⟨pl, p0, p1, p2, p3⟩ := HB.dec (t := 27) (g := w.heap.size) (a := .bool n) (b := .int .u64 a) (c := .int .u64 b) (d := .int .i64 s) hSw (by simp)
              obtain ⟨ql, q0, q1, q2, q3⟩ := HB.dec (t := 27) (g := w.heap.size + 1) (a := .bool n') (b := .int .u64 a') (c := .int .u64 b') (d := .int .i64 s') hSw (by simp)
              obtain ⟨ol, oo0, oo1⟩ := HB.two (t := 25) (g := go) (a := .int .u64 o0) (b := .int .u64 o1) hSw (by simp)
              obtain ⟨fl, ff0, ff1⟩ := HB.two (t := 25) (g := gd) (a := .int .u64 18446744073709551615) (b := .int .u64 18446744073709551615) hSw (by simp)
              go_simp
              all_goals with_reducible rfl
            simp only [Act.put, List.setIfInBounds_toArray, List.set_cons_zero, List.set_cons_succ]
            refine ord_take (v := ?_) (i := 7) (fuel := 8) (by simp; rfl) (by kernel_rfl) (by kernel_rfl) (by kernel_rfl) (Or.inl ⟨by rfl, fun w' hSw => ?_⟩) Qd.out.1 ?_
            rotate_left
            · dsimp only at hSw
              obtain ⟨pl, p0, p1, p2, p3⟩ := HB.dec (t := 27) (g := w.heap.size) (a := .bool n) (b := .int .u64 a) (c := .int .u64 b) (d := .int .i64 s) hSw (by simp)
              obtain ⟨ql, q0, q1, q2, q3⟩ := HB.dec (t := 27) (g := w.heap.size + 1) (a := .bool n') (b := .int .u64 a') (c := .int .u64 b') (d := .int .i64 s') hSw (by simp)
              obtain ⟨ol, oo0, oo1⟩ := HB.two (t := 25) (g := go) (a := .int .u64 o0) (b := .int .u64 o1) hSw (by simp)
              obtain ⟨fl, ff0, ff1⟩ := HB.two (t := 25) (g := gd) (a := .int .u64 18446744073709551615) (b := .int .u64 18446744073709551615) hSw (by simp)
              go_simp
              all_goals with_reducible rfl
            simp only [Act.put, List.setIfInBounds_toArray, List.set_cons_zero, List.set_cons_succ]
            refine ord_take (v := ?_) (i := 9) (fuel := 7) (by simp; rfl) (by kernel_rfl) (by kernel_rfl) (by kernel_rfl) (Or.inl ⟨by rfl, fun w' hSw => ?_⟩) Qd.out.1 ?_
            rotate_left
            · dsimp only at hSw
              obtain ⟨pl, p0, p1, p2, p3⟩ := HB.dec (t := 27) (g := w.heap.size) (a := .bool n) (b := .int .u64 a) (c := .int .u64 b) (d := .int .i64 s) hSw (by simp)
              obtain ⟨ql, q0, q1, q2, q3⟩ := HB.dec (t := 27) (g := w.heap.size + 1) (a := .bool n') (b := .int .u64 a') (c := .int .u64 b') (d := .int .i64 s') hSw (by simp)
              obtain ⟨ol, oo0, oo1⟩ := HB.two (t := 25) (g := go) (a := .int .u64 o0) (b := .int .u64 o1) hSw (by simp)
              obtain ⟨fl, ff0, ff1⟩ := HB.two (t := 25) (g := gd) (a := .int .u64 18446744073709551615) (b := .int .u64 18446744073709551615) hSw (by simp)
              go_simp
              all_goals with_reducible rfl
            simp only [Act.put, List.setIfInBounds_toArray, List.set_cons_zero, List.set_cons_succ]
            refine ord_take (v := ?_) (i := 4) (fuel := 6) (by simp; rfl) (by kernel_rfl) (by kernel_rfl) (by kernel_rfl) (Or.inl ⟨by rfl, fun w' hSw => ?_⟩) Qd.out.1 ?_
            rotate_left
            · go_simp
              all_goals with_reducible rfl
            simp only [Act.put, List.setIfInBounds_toArray, List.set_cons_zero, List.set_cons_succ]
            refine ord_call (f := 17) (args := #[.agg #[.int .u64 a, .int .u64 b], .agg #[.int .u64 o0, .int .u64 o1]]) (w1 := W7.drew) (i := 8) (fuel := 5) (by simp; rfl) (by kernel_rfl) (by rfl) ?_ ?_
            · go_simp
              all_goals with_reducible rfl
            refine (mul_c a b o0 o1 _ ha hb1 ho0 ho1).mono ?_
            rintro e x2 ⟨_, ⟨y0, y1, y2, y3, HMv, rfl⟩, rfl, hb⟩
            have Q2 := Lib.hid (Qd.out.below hb)
            have HMV := Lib.hid HMv
            clear hb HMv
            refine ⟨_, rfl, Q2.out.1, ?_⟩
            simp only [Act.put, List.setIfInBounds_toArray, List.set_cons_zero, List.set_cons_succ]
            refine ord_call (f := 18) (args := #[.bool (n != n'), .agg #[.int .u64 y0, .int .u64 y1, .int .u64 y2, .int .u64 y3], .agg #[.int .u64 18446744073709551615, .int .u64 18446744073709551615], .int .i64 t, .int .i64 m]) (w1 := x2) (i := 12) (fuel := 4) (by simp; rfl) (by kernel_rfl) (by rfl) ?_ ?_
            · go_simp
              all_goals (try (with_reducible rfl))
              all_goals (cases n <;> cases n' <;> rfl)
            refine (ans_of (rounded_all (n != n') y0 y1 y2 y3 18446744073709551615 18446744073709551615 t m _ HMV.out.1 HMV.out.2.1 HMV.out.2.2.1 HMV.out.2.2.2.1 HF.out.1 HF.out.2.1 HF.out.2.2.1 ht0 ht9 HM.out) (by rw [HMV.out.2.2.2.2, EO.out, HF.out.2.2.2])).mono ?_
            rintro e x9 ⟨_, ⟨m4, c4, d4, q4, e4, D4, rfl⟩, rfl, hb⟩
            have Q9 := Lib.hid (Q2.out.below hb)
            have HD4 := Lib.hid D4
            clear hb D4
            refine ⟨_, rfl, Q9.out.1, ?_⟩
            simp only [Act.put, List.setIfInBounds_toArray, List.set_cons_zero, List.set_cons_succ]
            refine ord_take (v := ?_) (i := 13) (fuel := 3) (by simp; rfl) (by kernel_rfl) (by kernel_rfl) (by kernel_rfl) (Or.inl ⟨by rfl, fun w' hSw => ?_⟩) Q9.out.1 ?_
            rotate_left
            · go_simp
              all_goals with_reducible rfl
            simp only [Act.put, List.setIfInBounds_toArray, List.set_cons_zero, List.set_cons_succ]
            refine ord_take (v := ?_) (i := 14) (fuel := 2) (by simp; rfl) (by kernel_rfl) (by kernel_rfl) (by kernel_rfl) (Or.inl ⟨by rfl, fun w' hSw => ?_⟩) Q9.out.1 ?_
            rotate_left
            · go_simp
              all_goals with_reducible rfl
            simp only [Act.put, List.setIfInBounds_toArray, List.set_cons_zero, List.set_cons_succ]
            obtain ⟨lz, ⟨z0, z1, z2, z3⟩, y0, y1, y2, y3⟩ := blk_c4 Q9.out.2
            have VS1 := HB.set4 (a' := .bool m4) (b' := .int .u64 c4) (c' := .int .u64 d4) (d' := .int .i64 q4) Q9.out.1 Q9.out.2 (by omega) hne
            have VS := HB.sub (bs' := [(gd, 25, #[.int .u64 18446744073709551615, .int .u64 18446744073709551615]), (go, 25, #[.int .u64 o0, .int .u64 o1]), (w.heap.size + 1, 27, #[.bool n', .int .u64 a', .int .u64 b', .int .i64 s']), (w.heap.size, 27, #[.bool n, .int .u64 a, .int .u64 b, .int .i64 s])]) VS1 (by simp)
            refine ord_skip (w' := ((((x9.setCell ⟨w.heap.size + 1 + 1, 0, none⟩ (.bool m4)).setCell ⟨w.heap.size + 1 + 1, 1, none⟩ (.int .u64 c4)).setCell ⟨w.heap.size + 1 + 1, 2, none⟩ (.int .u64 d4)).setCell ⟨w.heap.size + 1 + 1, 3, none⟩ (.int .i64 q4))) (i := 15) (fuel := 1) (by simp; rfl) (by kernel_rfl) (by rfl) (by rfl) ?_ VS ?_
            · go_simp
              all_goals with_reducible rfl
            refine ord_take (v := ?_) (i := 16) (fuel := 0) (by simp; rfl) (by kernel_rfl) (by kernel_rfl) (by kernel_rfl) (Or.inl ⟨by rfl, fun w' hSw => ?_⟩) VS ?_
            rotate_left
            · go_simp
              all_goals with_reducible rfl
            simp only [Act.put, List.setIfInBounds_toArray, List.set_cons_zero, List.set_cons_succ]
            obtain ⟨lt, t0, t1, t2, t3⟩ := HB.dec (t := 27) (g := w.heap.size + 1 + 1) (a := .bool m4) (b := .int .u64 c4) (c := .int .u64 d4) (d := .int .i64 q4) VS1 (by simp)
            have HB1 := Lib.hid VS.1
            clear VS VS1 lz z0 z1 z2 z3 y0 y1 y2 y3
            refine ord_done (by kernel_rfl) ?_ _
            go_wp2
            exact bodyPost_ret (v := .tuple #[.agg #[.bool m4, .int .u64 c4, .int .u64 d4, .int .i64 q4], .int .i64 e4]) (by simp [results, Tryd.results6, go_sem, t0, t1, t2, t3]) rfl ⟨_, ⟨_, _, _, _, _, HD4.out, rfl⟩, rfl, HB1.out⟩
      · have HG := Lib.hid (decide_eq_false hg)
        have HV := Lib.hid (show divV n a b s n' a' b' s' t m = errV 1 by unfold divV; rw [if_neg (fun h => hg h.2.2)])
        rw [HV.out]
        clear hr hr' hg
        go_enter Tryd.func6, Tryd.ntmps6
        go_wp2_with fail
        refine (right_c n a b s _ ha hb1).mono ?_
        rintro e w1 ⟨_, rfl, rfl, hb⟩
        rw [HR.out]
        have Q1 := Lib.hid (Q0.out.below hb)
        clear hb
        obtain ⟨lq, q0, q1, q2, q3⟩ := HB.dec (t := 27) (g := w.heap.size + 1) (a := .bool n') (b := .int .u64 a') (c := .int .u64 b') (d := .int .i64 s') Q1.out.1 (by simp)
        go_wp2_with fail
        refine (right_c n' a' b' s' _ ha' hb1').mono ?_
        rintro e w2 ⟨_, rfl, rfl, hb⟩
        rw [HR'.out]
        have Q2 := Lib.hid (Q1.out.below hb)
        clear hb lq q0 q1 q2 q3
        go_wp2_with fail
        refine (qknown_all t m _).mono ?_
        rintro e w' ⟨rfl, rfl⟩
        rw [HG.out]
        obtain ⟨lz, ⟨z0, z1, z2, z3⟩, y0, y1, y2, y3⟩ := blk_c4 Q2.out.2
        have HBB := Lib.hid Q2.out.1.1
        go_wp2
        exact bodyPost_ret (v := .tuple #[.agg #[.bool false, .int .u64 0, .int .u64 0, .int .i64 0], .int .i64 1]) (by simp [results, Tryd.results6, go_sem, z0, z1, z2, z3]) rfl ⟨_, ans_err 1, rfl, bel4 HBB.out (by omega)⟩
    · have HR' := Lib.hid (decide_eq_false hr')
      have HV := Lib.hid (show divV n a b s n' a' b' s' t m = errV 1 by unfold divV; rw [if_neg (fun h => hr' h.2.1)])
      rw [HV.out]
      clear hr hr'
      go_enter Tryd.func6, Tryd.ntmps6
      go_wp2_with fail
      refine (right_c n a b s _ ha hb1).mono ?_
      rintro e w1 ⟨_, rfl, rfl, hb⟩
      rw [HR.out]
      have Q1 := Lib.hid (Q0.out.below hb)
      clear hb
      obtain ⟨lq, q0, q1, q2, q3⟩ := HB.dec (t := 27) (g := w.heap.size + 1) (a := .bool n') (b := .int .u64 a') (c := .int .u64 b') (d := .int .i64 s') Q1.out.1 (by simp)
      go_wp2_with fail
      refine (right_c n' a' b' s' _ ha' hb1').mono ?_
      rintro e w2 ⟨_, rfl, rfl, hb⟩
      rw [HR'.out]
      have Q2 := Lib.hid (Q1.out.below hb)
      clear hb lq q0 q1 q2 q3
      obtain ⟨lz, ⟨z0, z1, z2, z3⟩, y0, y1, y2, y3⟩ := blk_c4 Q2.out.2
      have HBB := Lib.hid Q2.out.1.1
      go_wp2
      exact bodyPost_ret (v := .tuple #[.agg #[.bool false, .int .u64 0, .int .u64 0, .int .i64 0], .int .i64 1]) (by simp [results, Tryd.results6, go_sem, z0, z1, z2, z3]) rfl ⟨_, ans_err 1, rfl, bel4 HBB.out (by omega)⟩
  · have HR := Lib.hid (decide_eq_false hr)
    have HV := Lib.hid (show divV n a b s n' a' b' s' t m = errV 1 by unfold divV; rw [if_neg (fun h => hr h.1)])
    rw [HV.out]
    clear hr
    go_enter Tryd.func6, Tryd.ntmps6
    go_wp2_with fail
    refine (right_c n a b s _ ha hb1).mono ?_
    rintro e w1 ⟨_, rfl, rfl, hb⟩
    rw [HR.out]
    have Q1 := Lib.hid (Q0.out.below hb)
    clear hb
    obtain ⟨lz, ⟨z0, z1, z2, z3⟩, y0, y1, y2, y3⟩ := blk_c4 Q1.out.2
    have HBB := Lib.hid Q1.out.1.1
    go_wp2
    exact bodyPost_ret (v := .tuple #[.agg #[.bool false, .int .u64 0, .int .u64 0, .int .i64 0], .int .i64 1]) (by simp [results, Tryd.results6, go_sem, z0, z1, z2, z3]) rfl ⟨_, ans_err 1, rfl, bel4 HBB.out (by omega)⟩
end Go.Proofs.YtkaflkofffgndaaDoor

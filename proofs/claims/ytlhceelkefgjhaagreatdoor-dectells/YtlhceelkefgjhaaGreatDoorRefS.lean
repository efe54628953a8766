/- Package pyxref1 at any decimals: Add, Cmp whole; Sub, Mul, Scaled. -/
import Derived.Test.YtlhceelkefgjhaaGreatDoorRefR
namespace Go.Proofs.YtlhceelkefgjhaaGreatDoor
open Go.RowKit
theorem bool_ne {n n' : Bool} (h : ¬ n = n') : n' = (!n) ∧ (n == n') = false := by cases n <;> cases n' <;> simp_all
theorem radd_all (n : Bool) (a b s : Int) (n' : Bool) (a' b' s' : Int) (w : World) (ha : U64 a) (hb1 : U64 b) (ha' : U64 a') (hb1' : U64 b') :
    Calls Tryz.prog 10 #[.agg #[.bool n, .int .u64 a, .int .u64 b, .int .i64 s], .agg #[.bool n', .int .u64 a', .int .u64 b', .int .i64 s']] w (Ret w (Ans (addV n a b s n' a' b' s'))) := by
  unfold addV
  by_cases hr : RightD n a b s
  · by_cases hr' : RightD n' a' b' s'
    · rw [if_pos ⟨hr, hr'⟩, zAt_zOf, zAt_zOf]
      have ht : (s < s' ∧ s' = max s s') ∨ (s' ≤ s ∧ s = max s s') := by omega
      generalize max s s' = t at ht ⊢
      have h1 := hr.2.1
      have h2 := hr.2.2.1
      have h3 := hr'.2.1
      have h4 := hr'.2.2.1
      have t0 : 0 ≤ t := by omega
      have t9 : t ≤ 9 := by omega
      show Calls _ _ _ w (Ret w (Ans (chkZ (zOf n (upW a b s t) + zOf n' (upW a' b' s' t)) t)))
      by_cases hn : n = n'
      · subst hn
        rw [zOf_add]
        exact ans_of (radd_same n n a b s a' b' s' t _ _ w ha hb1 ha' hb1' hr hr' ht rfl rfl rfl) (chk_z _ _ _ t0 t9)
      · obtain ⟨hn2, hne⟩ := bool_ne hn
        by_cases hc : upW a' b' s' t ≤ upW a b s t
        · exact ans_of (radd_ge n n' a b s a' b' s' t _ _ w ha hb1 ha' hb1' hr hr' ht rfl rfl hne hc) ((chk_z _ _ _ t0 t9).trans (by rw [hn2, zOf_ge _ _ _ hc]))
        · exact ans_of (radd_lt n n' a b s a' b' s' t _ _ w ha hb1 ha' hb1' hr hr' ht rfl rfl hne (Nat.lt_of_not_le hc)) ((chk_z _ _ _ t0 t9).trans (by rw [hn2, zOf_lt _ _ _ (Nat.lt_of_not_le hc)]))
    · rw [if_neg (fun h => hr' h.2)]
      exact radd_no1 n a b s n' a' b' s' w ha hb1 ha' hb1' hr hr'
  · rw [if_neg (fun h => hr h.1)]
    exact radd_no0 n a b s n' a' b' s' w ha hb1 hr
theorem compare_sign {x y : Int} (h : x ≠ y) : (x < y ∧ Lib.compareInt x y = -1) ∨ (decide (x < y) = false ∧ Lib.compareInt x y = 1) := by
  rcases compareInt_cases x y with ⟨a, b⟩ | ⟨a, b⟩ | ⟨a, b⟩
  · exact .inl ⟨a, b⟩
  · exact absurd a h
  · exact .inr ⟨by simp; omega, b⟩
theorem rcmp_all (n : Bool) (a b s : Int) (n' : Bool) (a' b' s' : Int) (w : World) (ha : U64 a) (hb1 : U64 b) (ha' : U64 a') (hb1' : U64 b') :
    Calls Tryz.prog 25 #[.agg #[.bool n, .int .u64 a, .int .u64 b, .int .i64 s], .agg #[.bool n', .int .u64 a', .int .u64 b', .int .i64 s']] w (Ret w (IsInt (cmpV n a b s n' a' b' s'))) := by
  by_cases hr : RightD n a b s
  · by_cases hr' : RightD n' a' b' s'
    · rw [cmpV, if_pos ⟨hr, hr'⟩]
      have ht : (s < s' ∧ s' = max s s') ∨ (s' ≤ s ∧ s = max s s') := by omega
      generalize max s s' = t at ht ⊢
      have e1 : signV n a b s = (zOf n (v2 a b)).sign := by rw [signV, if_pos hr]
      have e2 : signV n' a' b' s' = (zOf n' (v2 a' b')).sign := by rw [signV, if_pos hr']
      have d1 := right_z ha hb1 hr
      have d2 := right_z ha' hb1' hr'
      by_cases hs : (zOf n (v2 a b)).sign = (zOf n' (v2 a' b')).sign
      · rw [← cmp_same _ s _ s' t hs]
        refine rcmp_eq n a b s n' a' b' s' _ _ t _ _ w ha hb1 ha' hb1' hr hr' e1 (e2.trans hs.symm) ht (up_dec d1) (up_dec d2) (sign_wrap _ _ _)
      · rw [← cmp_diff _ s _ s' t hs]
        exact rcmp_diff n a b s n' a' b' s' _ _ _ w ha hb1 ha' hb1' hr hr' e1 e2 (by simp [hs]) (compare_sign hs)
    · rw [cmpV, if_neg (fun h => hr' h.2)]
      exact rcmp_no1 n a b s n' a' b' s' w ha hb1 ha' hb1' hr hr'
  · rw [cmpV, if_neg (fun h => hr h.1)]
    exact rcmp_no0 n a b s n' a' b' s' w ha hb1 hr
theorem rneg_v (n : Bool) (a b s : Int) (m : Bool) (c d : Int) (w : World) (ha : U64 a) (hb1 : U64 b) (hr : RightD n a b s) (hN : DecIs m c d (-(zOf n (v2 a b)))) :
    Calls Tryz.prog 21 #[.agg #[.bool n, .int .u64 a, .int .u64 b, .int .i64 s]] w (Ret w (· = .agg #[.bool m, .int .u64 c, .int .u64 d, .int .i64 s])) :=
  (rneg_all n a b s w ha hb1).mono fun e w' ⟨v, ⟨m', c', d', q', hV, ev⟩, he, hb⟩ => by
    obtain ⟨m2, c2, d2, hd2, ev2⟩ := decV_is (z := -(zOf n (v2 a b))) (s := s) (by rw [Int.natAbs_neg]; exact zof_30 hr)
    obtain ⟨rfl, rfl, rfl⟩ := decIs_one hd2 hN
    rw [negV, if_pos hr, ev2] at hV
    exact ⟨v, ev.trans hV.symm, he, hb⟩
set_option maxRecDepth 100000 in
set_option maxHeartbeats 3200000 in
theorem rsub_yes (n : Bool) (a b s : Int) (n' : Bool) (a' b' s' : Int) (m : Bool) (c d : Int) (w : World) (ha : U64 a) (hb1 : U64 b) (ha' : U64 a') (hb1' : U64 b') (hr : RightD n a b s) (hr' : RightD n' a' b' s') (hN : DecIs m c d (-(zOf n' (v2 a' b')))) :
    Calls Tryz.prog 11 #[.agg #[.bool n, .int .u64 a, .int .u64 b, .int .i64 s], .agg #[.bool n', .int .u64 a', .int .u64 b', .int .i64 s']] w (Ret w (Ans (addV n a b s m c d s'))) := by
  have W : HB w [(w.heap.size + 1 + 1, 25, #[.bool false, .int .u64 0, .int .u64 0, .int .i64 0]), (w.heap.size + 1, 25, #[.bool n', .int .u64 a', .int .u64 b', .int .i64 s']), (w.heap.size, 25, #[.bool n, .int .u64 a, .int .u64 b, .int .i64 s])] (((w.alloc (.cells #[.bool n, .int .u64 a, .int .u64 b, .int .i64 s] 25)).alloc (.cells #[.bool n', .int .u64 a', .int .u64 b', .int .i64 s'] 25)).alloc (.cells #[.bool false, .int .u64 0, .int .u64 0, .int .i64 0] 25)) := by
    have h := (((HB.start (Below.refl _ w)).push #[.bool n, .int .u64 a, .int .u64 b, .int .i64 s] 25).push #[.bool n', .int .u64 a', .int .u64 b', .int .i64 s'] 25).push #[.bool false, .int .u64 0, .int .u64 0, .int .i64 0] 25
    simpa using h
  have hlg : w.heap.size ≤ w.heap.size + 1 + 1 := by omega
  have HNG := Lib.hid (fun w => rneg_v n' a' b' s' m c d w ha' hb1' hr' hN)
  have uc := hN.2.1
  have ud := hN.2.2.1
  clear hN
  have HR := Lib.hid (decide_eq_true hr)
  clear hr
  have HR' := Lib.hid (decide_eq_true hr')
  clear hr'
  go_enter Tryz.func11, Tryz.ntmps11
  go_wp2_with fail
  refine (rdec_v n a b s true _ ha hb1 HR.out).mono ?_
  rintro e w1 ⟨_, rfl, rfl, hb⟩
  replace W := W.below hb
  clear hb
  obtain ⟨lq, q0, q1, q2, q3⟩ := HB.dec (t := 25) (g := w.heap.size + 1) (a := .bool n') (b := .int .u64 a') (c := .int .u64 b') (d := .int .i64 s') W (by simp)
  go_wp2_with fail
  refine (rdec_v n' a' b' s' true _ ha' hb1' HR'.out).mono ?_
  rintro e w2 ⟨_, rfl, rfl, hb⟩
  replace W := W.below hb
  clear hb lq q0 q1 q2 q3
  go_upto_region 3 with fail
  have BZ : Blk w2 (w.heap.size + 1 + 1) 25 #[.bool false, .int .u64 0, .int .u64 0, .int .i64 0] := HB.blk (g := w.heap.size + 1 + 1) (t := 25) (cs := #[.bool false, .int .u64 0, .int .u64 0, .int .i64 0]) W (by simp)
  have VD : HB w [(w.heap.size + 1, 25, #[.bool n', .int .u64 a', .int .u64 b', .int .i64 s']), (w.heap.size, 25, #[.bool n, .int .u64 a, .int .u64 b, .int .i64 s])] w2.drew := (HB.sub W (by simp)).drew
  have hne : ∀ b0 ∈ ([(w.heap.size + 1, 25, #[.bool n', .int .u64 a', .int .u64 b', .int .i64 s']), (w.heap.size, 25, #[.bool n, .int .u64 a, .int .u64 b, .int .i64 s])] : List (Nat × TypeId × Array Value)), b0.1 ≠ w.heap.size + 1 + 1 := by intro b0 hb; simp at hb; rcases hb with rfl | rfl <;> simp <;> omega
  clear W
  refine wp_region_ord (S := fun W => HB w [(w.heap.size + 1, 25, #[.bool n', .int .u64 a', .int .u64 b', .int .i64 s']), (w.heap.size, 25, #[.bool n, .int .u64 a, .int .u64 b, .int .i64 s])] W) (by kernel_rfl) ?_
  refine ord_take (v := ?_) (i := 0) (fuel := 7) (by simp; rfl) (by kernel_rfl) (by kernel_rfl) (by kernel_rfl) (Or.inl ⟨by rfl, fun w' hSw => ?_⟩) VD ?_
  rotate_left
  · dsimp only at hSw
    obtain ⟨ql, q0, q1, q2, q3⟩ := HB.dec (t := 25) (g := w.heap.size) (a := .bool n) (b := .int .u64 a) (c := .int .u64 b) (d := .int .i64 s) hSw (by simp)
    go_simp
    all_goals with_reducible rfl
  simp only [Act.put, List.setIfInBounds_toArray, List.set_cons_zero, List.set_cons_succ]
  refine ord_take (v := ?_) (i := 1) (fuel := 6) (by simp; rfl) (by kernel_rfl) (by kernel_rfl) (by kernel_rfl) (Or.inl ⟨by rfl, fun w' hSw => ?_⟩) VD ?_
  rotate_left
  · dsimp only at hSw
    obtain ⟨ql, q0, q1, q2, q3⟩ := HB.dec (t := 25) (g := w.heap.size + 1) (a := .bool n') (b := .int .u64 a') (c := .int .u64 b') (d := .int .i64 s') hSw (by simp)
    go_simp
    all_goals with_reducible rfl
  simp only [Act.put, List.setIfInBounds_toArray, List.set_cons_zero, List.set_cons_succ]
  refine ord_call (f := 21) (args := #[.agg #[.bool n', .int .u64 a', .int .u64 b', .int .i64 s']]) (w1 := w2.drew) (i := 2) (fuel := 5) (by simp; rfl) (by kernel_rfl) (by rfl) ?_ ?_
  · go_simp
    all_goals with_reducible rfl
  refine (HNG.out _).mono ?_
  rintro e x1 ⟨_, rfl, rfl, hb⟩
  have V1 := VD.below hb
  have BY := (show Blk w2.drew (w.heap.size + 1 + 1) 25 #[.bool false, .int .u64 0, .int .u64 0, .int .i64 0] from BZ).below hb BZ.lt
  clear hb VD BZ
  refine ⟨_, rfl, V1, ?_⟩
  simp only [Act.put, List.setIfInBounds_toArray, List.set_cons_zero, List.set_cons_succ]
  refine ord_call (f := 10) (args := #[.agg #[.bool n, .int .u64 a, .int .u64 b, .int .i64 s], .agg #[.bool m, .int .u64 c, .int .u64 d, .int .i64 s']]) (w1 := x1) (i := 3) (fuel := 4) (by simp; rfl) (by kernel_rfl) (by rfl) ?_ ?_
  · go_simp
    all_goals with_reducible rfl
  refine (radd_all n a b s m c d s' _ ha hb1 uc ud).mono ?_
  rintro e x9 ⟨_, ⟨m4, c4, d4, q4, e4, D4, rfl⟩, rfl, hb⟩
  have V9 := V1.below hb
  have BX := BY.below hb BY.lt
  have HD4 := Lib.hid D4
  clear hb V1 BY D4
  refine ⟨_, rfl, V9, ?_⟩
  simp only [Act.put, List.setIfInBounds_toArray, List.set_cons_zero, List.set_cons_succ]
  refine ord_take (v := ?_) (i := 4) (fuel := 3) (by simp; rfl) (by kernel_rfl) (by kernel_rfl) (by kernel_rfl) (Or.inl ⟨by rfl, fun w' hSw => ?_⟩) V9 ?_
  rotate_left
  · go_simp
    all_goals with_reducible rfl
  simp only [Act.put, List.setIfInBounds_toArray, List.set_cons_zero, List.set_cons_succ]
  refine ord_take (v := ?_) (i := 5) (fuel := 2) (by simp; rfl) (by kernel_rfl) (by kernel_rfl) (by kernel_rfl) (Or.inl ⟨by rfl, fun w' hSw => ?_⟩) V9 ?_
  rotate_left
  · go_simp
    all_goals with_reducible rfl
  simp only [Act.put, List.setIfInBounds_toArray, List.set_cons_zero, List.set_cons_succ]
  obtain ⟨lz, ⟨z0, z1, z2, z3⟩, y0, y1, y2, y3⟩ := blk_cells BX
  have VS1 := HB.set4 (a' := .bool m4) (b' := .int .u64 c4) (c' := .int .u64 d4) (d' := .int .i64 q4) V9 BX hlg hne
  have VS := HB.sub (bs' := [(w.heap.size + 1, 25, #[.bool n', .int .u64 a', .int .u64 b', .int .i64 s']), (w.heap.size, 25, #[.bool n, .int .u64 a, .int .u64 b, .int .i64 s])]) VS1 (by simp)
  refine ord_skip (w' := ((((x9.setCell ⟨w.heap.size + 1 + 1, 0, none⟩ (.bool m4)).setCell ⟨w.heap.size + 1 + 1, 1, none⟩ (.int .u64 c4)).setCell ⟨w.heap.size + 1 + 1, 2, none⟩ (.int .u64 d4)).setCell ⟨w.heap.size + 1 + 1, 3, none⟩ (.int .i64 q4))) (i := 6) (fuel := 1) (by simp; rfl) (by kernel_rfl) (by rfl) rfl ?_ VS ?_
  · go_simp
    all_goals with_reducible rfl
  refine ord_take (v := ?_) (i := 7) (fuel := 0) (by simp; rfl) (by kernel_rfl) (by kernel_rfl) (by kernel_rfl) (Or.inl ⟨by rfl, fun w' hSw => ?_⟩) VS ?_
  rotate_left
  · go_simp
    all_goals with_reducible rfl
  simp only [Act.put, List.setIfInBounds_toArray, List.set_cons_zero, List.set_cons_succ]
  obtain ⟨lt, t0, t1, t2, t3⟩ := HB.dec (t := 25) (g := w.heap.size + 1 + 1) (a := .bool m4) (b := .int .u64 c4) (c := .int .u64 d4) (d := .int .i64 q4) VS1 (by simp)
  have HB1 := Lib.hid VS.1
  clear VS VS1 V9 BX lz z0 z1 z2 z3 y0 y1 y2 y3
  refine ord_done (by kernel_rfl) ?_ _
  go_wp2
  exact bodyPost_ret (v := .tuple #[.agg #[.bool m4, .int .u64 c4, .int .u64 d4, .int .i64 q4], .int .i64 e4]) (by simp [results, Tryz.results11, go_sem, t0, t1, t2, t3]) rfl ⟨_, ⟨_, _, _, _, _, HD4.out, rfl⟩, rfl, HB1.out⟩
theorem rsub_all (n : Bool) (a b s : Int) (n' : Bool) (a' b' s' : Int) (w : World) (ha : U64 a) (hb1 : U64 b) (ha' : U64 a') (hb1' : U64 b') :
    Calls Tryz.prog 11 #[.agg #[.bool n, .int .u64 a, .int .u64 b, .int .i64 s], .agg #[.bool n', .int .u64 a', .int .u64 b', .int .i64 s']] w (Ret w (Ans (subV n a b s n' a' b' s'))) := by
  unfold subV
  by_cases hr : RightD n a b s
  · by_cases hr' : RightD n' a' b' s'
    · obtain ⟨m, c, d, hN, -⟩ := decV_is (z := -(zOf n' (v2 a' b'))) (s := s') (by rw [Int.natAbs_neg]; exact zof_30 hr')
      refine ans_of (rsub_yes n a b s n' a' b' s' m c d w ha hb1 ha' hb1' hr hr' hN) ?_
      unfold addV
      have hrm : RightD m c d s' := decIs_right hN (by rw [Int.natAbs_neg]; exact zof_30 hr') hr'.2.1 hr'.2.2.1
      rw [if_pos ⟨hr, hrm⟩, if_pos ⟨hr, hr'⟩, decIs_zOf hN]
      have e : zAt (-(zOf n' (v2 a' b'))) s' (max s s') = -zAt (zOf n' (v2 a' b')) s' (max s s') := by
        unfold zAt
        rw [Int.neg_mul]
      rw [e, ← Int.sub_eq_add_neg]
    · rw [if_neg (fun h => hr' h.2)]
      exact rsub_no1 n a b s n' a' b' s' w ha hb1 ha' hb1' hr hr'
  · rw [if_neg (fun h => hr h.1)]
    exact rsub_no0 n a b s n' a' b' s' w ha hb1 hr
set_option maxRecDepth 100000 in
set_option maxHeartbeats 3200000 in
theorem rmul_yes (n : Bool) (a b s : Int) (n' : Bool) (a' b' s' : Int) (w : World) (ha : U64 a) (hb1 : U64 b) (ha' : U64 a') (hb1' : U64 b') (hr : RightD n a b s) (hr' : RightD n' a' b' s') :
    Calls Tryz.prog 12 #[.agg #[.bool n, .int .u64 a, .int .u64 b, .int .i64 s], .agg #[.bool n', .int .u64 a', .int .u64 b', .int .i64 s']] w (Ret w (Ans (chkV (n != n') (v2 a b * v2 a' b') (s + s')))) := by
  have W : HB w [(w.heap.size + 1 + 1, 25, #[.bool false, .int .u64 0, .int .u64 0, .int .i64 0]), (w.heap.size + 1, 25, #[.bool n', .int .u64 a', .int .u64 b', .int .i64 s']), (w.heap.size, 25, #[.bool n, .int .u64 a, .int .u64 b, .int .i64 s])] (((w.alloc (.cells #[.bool n, .int .u64 a, .int .u64 b, .int .i64 s] 25)).alloc (.cells #[.bool n', .int .u64 a', .int .u64 b', .int .i64 s'] 25)).alloc (.cells #[.bool false, .int .u64 0, .int .u64 0, .int .i64 0] 25)) := by
    have h := (((HB.start (Below.refl _ w)).push #[.bool n, .int .u64 a, .int .u64 b, .int .i64 s] 25).push #[.bool n', .int .u64 a', .int .u64 b', .int .i64 s'] 25).push #[.bool false, .int .u64 0, .int .u64 0, .int .i64 0] 25
    simpa using h
  have hlg : w.heap.size ≤ w.heap.size + 1 + 1 := by omega
  have ew : IntKind.i64.wrap (s + s') = s + s' := IntWalk.i64_in _ (by have := hr.2.1; have := hr.2.2.1; have := hr'.2.1; have := hr'.2.2.1; omega)
  have EW := Lib.hid ew
  clear ew
  have HR := Lib.hid (decide_eq_true hr)
  clear hr
  have HR' := Lib.hid (decide_eq_true hr')
  clear hr'
  go_enter Tryz.func12, Tryz.ntmps12
  go_wp2_with fail
  refine (rdec_v n a b s true _ ha hb1 HR.out).mono ?_
  rintro e w1 ⟨_, rfl, rfl, hb⟩
  replace W := W.below hb
  clear hb
  obtain ⟨lq, q0, q1, q2, q3⟩ := HB.dec (t := 25) (g := w.heap.size + 1) (a := .bool n') (b := .int .u64 a') (c := .int .u64 b') (d := .int .i64 s') W (by simp)
  go_wp2_with fail
  refine (rdec_v n' a' b' s' true _ ha' hb1' HR'.out).mono ?_
  rintro e w2 ⟨_, rfl, rfl, hb⟩
  replace W := W.below hb
  clear hb lq q0 q1 q2 q3
  go_upto_region 3 with fail
  have BZ : Blk w2 (w.heap.size + 1 + 1) 25 #[.bool false, .int .u64 0, .int .u64 0, .int .i64 0] := HB.blk (g := w.heap.size + 1 + 1) (t := 25) (cs := #[.bool false, .int .u64 0, .int .u64 0, .int .i64 0]) W (by simp)
  have VD : HB w [(w.heap.size + 1, 25, #[.bool n', .int .u64 a', .int .u64 b', .int .i64 s']), (w.heap.size, 25, #[.bool n, .int .u64 a, .int .u64 b, .int .i64 s])] w2.drew := (HB.sub W (by simp)).drew
  have hne : ∀ b0 ∈ ([(w.heap.size + 1, 25, #[.bool n', .int .u64 a', .int .u64 b', .int .i64 s']), (w.heap.size, 25, #[.bool n, .int .u64 a, .int .u64 b, .int .i64 s])] : List (Nat × TypeId × Array Value)), b0.1 ≠ w.heap.size + 1 + 1 := by intro b0 hb; simp at hb; rcases hb with rfl | rfl <;> simp <;> omega
  clear W
  refine wp_region_ord (S := fun W => HB w [(w.heap.size + 1, 25, #[.bool n', .int .u64 a', .int .u64 b', .int .i64 s']), (w.heap.size, 25, #[.bool n, .int .u64 a, .int .u64 b, .int .i64 s])] W) (by kernel_rfl) ?_
  refine ord_take (v := ?_) (i := 0) (fuel := 21) (by simp; rfl) (by kernel_rfl) (by kernel_rfl) (by kernel_rfl) (Or.inl ⟨by rfl, fun w' hSw => ?_⟩) VD ?_
  rotate_left
  · go_simp
    all_goals with_reducible rfl
  simp only [Act.put, List.setIfInBounds_toArray, List.set_cons_zero, List.set_cons_succ]
  refine ord_take (v := ?_) (i := 1) (fuel := 20) (by simp; rfl) (by kernel_rfl) (by kernel_rfl) (by kernel_rfl) (Or.inl ⟨by rfl, fun w' hSw => ?_⟩) VD ?_
  rotate_left
  · dsimp only at hSw
    obtain ⟨ql, q0, q1, q2, q3⟩ := HB.dec (t := 25) (g := w.heap.size) (a := .bool n) (b := .int .u64 a) (c := .int .u64 b) (d := .int .i64 s) hSw (by simp)
    go_simp
    all_goals with_reducible rfl
  simp only [Act.put, List.setIfInBounds_toArray, List.set_cons_zero, List.set_cons_succ]
  refine ord_take (v := ?_) (i := 2) (fuel := 19) (by simp; rfl) (by kernel_rfl) (by kernel_rfl) (by kernel_rfl) (Or.inl ⟨by rfl, fun w' hSw => ?_⟩) VD ?_
  rotate_left
  · go_simp
    all_goals with_reducible rfl
  simp only [Act.put, List.setIfInBounds_toArray, List.set_cons_zero, List.set_cons_succ]
  refine ord_take (v := ?_) (i := 3) (fuel := 18) (by simp; rfl) (by kernel_rfl) (by kernel_rfl) (by kernel_rfl) (Or.inl ⟨by rfl, fun w' hSw => ?_⟩) VD ?_
  rotate_left
  · dsimp only at hSw
    obtain ⟨ql, q0, q1, q2, q3⟩ := HB.dec (t := 25) (g := w.heap.size + 1) (a := .bool n') (b := .int .u64 a') (c := .int .u64 b') (d := .int .i64 s') hSw (by simp)
    go_simp
    all_goals with_reducible rfl
  simp only [Act.put, List.setIfInBounds_toArray, List.set_cons_zero, List.set_cons_succ]
  refine ord_take (v := ?_) (i := 4) (fuel := 17) (by simp; rfl) (by kernel_rfl) (by kernel_rfl) (by kernel_rfl) (Or.inl ⟨by rfl, fun w' hSw => ?_⟩) VD ?_
  rotate_left
  · go_simp
    all_goals with_reducible rfl
  simp only [Act.put, List.setIfInBounds_toArray, List.set_cons_zero, List.set_cons_succ]
  refine ord_take (v := ?_) (i := 5) (fuel := 16) (by simp; rfl) (by kernel_rfl) (by kernel_rfl) (by kernel_rfl) (Or.inl ⟨by rfl, fun w' hSw => ?_⟩) VD ?_
  rotate_left
  · go_simp
    all_goals with_reducible rfl
  simp only [Act.put, List.setIfInBounds_toArray, List.set_cons_zero, List.set_cons_succ]
  refine ord_take (v := ?_) (i := 6) (fuel := 15) (by simp; rfl) (by kernel_rfl) (by kernel_rfl) (by kernel_rfl) (Or.inl ⟨by rfl, fun w' hSw => ?_⟩) VD ?_
  rotate_left
  · dsimp only at hSw
    obtain ⟨ql, q0, q1, q2, q3⟩ := HB.dec (t := 25) (g := w.heap.size) (a := .bool n) (b := .int .u64 a) (c := .int .u64 b) (d := .int .i64 s) hSw (by simp)
    go_simp
    all_goals with_reducible rfl
  simp only [Act.put, List.setIfInBounds_toArray, List.set_cons_zero, List.set_cons_succ]
  refine ord_take (v := ?_) (i := 8) (fuel := 14) (by simp; rfl) (by kernel_rfl) (by kernel_rfl) (by kernel_rfl) (Or.inl ⟨by rfl, fun w' hSw => ?_⟩) VD ?_
  rotate_left
  · go_simp
    all_goals with_reducible rfl
  simp only [Act.put, List.setIfInBounds_toArray, List.set_cons_zero, List.set_cons_succ]
  refine ord_take (v := ?_) (i := 9) (fuel := 13) (by simp; rfl) (by kernel_rfl) (by kernel_rfl) (by kernel_rfl) (Or.inl ⟨by rfl, fun w' hSw => ?_⟩) VD ?_
  rotate_left
  · dsimp only at hSw
    obtain ⟨ql, q0, q1, q2, q3⟩ := HB.dec (t := 25) (g := w.heap.size + 1) (a := .bool n') (b := .int .u64 a') (c := .int .u64 b') (d := .int .i64 s') hSw (by simp)
    go_simp
    all_goals with_reducible rfl
  simp only [Act.put, List.setIfInBounds_toArray, List.set_cons_zero, List.set_cons_succ]
  refine ord_take (v := ?_) (i := 12) (fuel := 12) (by simp; rfl) (by kernel_rfl) (by kernel_rfl) (by kernel_rfl) (Or.inl ⟨by rfl, fun w' hSw => ?_⟩) VD ?_
  rotate_left
  · go_simp
    all_goals with_reducible rfl
  simp only [Act.put, List.setIfInBounds_toArray, List.set_cons_zero, List.set_cons_succ]
  refine ord_take (v := ?_) (i := 13) (fuel := 11) (by simp; rfl) (by kernel_rfl) (by kernel_rfl) (by kernel_rfl) (Or.inl ⟨by rfl, fun w' hSw => ?_⟩) VD ?_
  rotate_left
  · dsimp only at hSw
    obtain ⟨ql, q0, q1, q2, q3⟩ := HB.dec (t := 25) (g := w.heap.size) (a := .bool n) (b := .int .u64 a) (c := .int .u64 b) (d := .int .i64 s) hSw (by simp)
    go_simp
    all_goals with_reducible rfl
  simp only [Act.put, List.setIfInBounds_toArray, List.set_cons_zero, List.set_cons_succ]
  refine ord_take (v := ?_) (i := 14) (fuel := 10) (by simp; rfl) (by kernel_rfl) (by kernel_rfl) (by kernel_rfl) (Or.inl ⟨by rfl, fun w' hSw => ?_⟩) VD ?_
  rotate_left
  · go_simp
    all_goals with_reducible rfl
  simp only [Act.put, List.setIfInBounds_toArray, List.set_cons_zero, List.set_cons_succ]
  refine ord_take (v := ?_) (i := 15) (fuel := 9) (by simp; rfl) (by kernel_rfl) (by kernel_rfl) (by kernel_rfl) (Or.inl ⟨by rfl, fun w' hSw => ?_⟩) VD ?_
  rotate_left
  · dsimp only at hSw
    obtain ⟨ql, q0, q1, q2, q3⟩ := HB.dec (t := 25) (g := w.heap.size + 1) (a := .bool n') (b := .int .u64 a') (c := .int .u64 b') (d := .int .i64 s') hSw (by simp)
    go_simp
    all_goals with_reducible rfl
  simp only [Act.put, List.setIfInBounds_toArray, List.set_cons_zero, List.set_cons_succ]
  refine ord_take (v := ?_) (i := 16) (fuel := 8) (by simp; rfl) (by kernel_rfl) (by kernel_rfl) (by kernel_rfl) (Or.inl ⟨by rfl, fun w' hSw => ?_⟩) VD ?_
  rotate_left
  · have ew := EW.out
    go_simp
    all_goals with_reducible rfl
  simp only [Act.put, List.setIfInBounds_toArray, List.set_cons_zero, List.set_cons_succ]
  refine ord_call (f := 43) (args := #[.agg #[.int .u64 a, .int .u64 b]]) (w1 := w2.drew) (i := 7) (fuel := 7) (by simp; rfl) (by kernel_rfl) (by rfl) ?_ ?_
  · go_simp
    all_goals with_reducible rfl
  refine (nat2_c a b _ ha hb1).mono ?_
  rintro e x1 ⟨A1, n1, k1, d1, ⟨D1, N1, E1⟩, rfl, hb⟩
  have V1 := VD.below hb
  have BY := (show Blk w2.drew (w.heap.size + 1 + 1) 25 #[.bool false, .int .u64 0, .int .u64 0, .int .i64 0] from BZ).below hb BZ.lt
  have l1 : n1 ≤ 40 := lenA D1 N1 (by rw [E1]; exact v2_40 ha hb1)
  have E1h := Lib.hid E1
  clear hb VD BZ E1
  refine ⟨_, rfl, V1, ?_⟩
  simp only [Act.put, List.setIfInBounds_toArray, List.set_cons_zero, List.set_cons_succ]
  refine ord_call (f := 43) (args := #[.agg #[.int .u64 a', .int .u64 b']]) (w1 := x1) (i := 10) (fuel := 6) (by simp; rfl) (by kernel_rfl) (by rfl) ?_ ?_
  · go_simp
    all_goals with_reducible rfl
  refine (nat2_c a' b' _ ha' hb1').mono ?_
  rintro e x2 ⟨A2, n2, k2, d2, ⟨D2, N2, E2⟩, rfl, hb⟩
  have V2 := V1.below hb
  have BW := BY.below hb BY.lt
  have l2 : n2 ≤ 40 := lenA D2 N2 (by rw [E2]; exact v2_40 ha' hb1')
  have E2h := Lib.hid E2
  replace D1 := D1.below hb
  clear hb V1 BY E2
  refine ⟨_, rfl, V2, ?_⟩
  simp only [Act.put, List.setIfInBounds_toArray, List.set_cons_zero, List.set_cons_succ]
  refine ord_call (f := 42) (args := #[.slice A1 n1 k1, .slice A2 n2 k2]) (w1 := x2) (i := 11) (fuel := 5) (by simp; rfl) (by kernel_rfl) (by rfl) ?_ ?_
  · go_simp
    all_goals with_reducible rfl
  refine (mulNat_c A1 A2 n1 n2 k1 k2 d1 d2 _ D1 D2 (by omega) (by omega)).mono ?_
  rintro e x3 ⟨A3, n3, k3, d3, ⟨D3, N3, E3⟩, rfl, hb⟩
  have V3 := V2.below hb
  have BU := BW.below hb BW.lt
  have E3h := Lib.hid (show dv d3 = v2 a b * v2 a' b' by rw [E3, E1h.out, E2h.out])
  clear hb V2 BW E3 D1 D2
  refine ⟨_, rfl, V3, ?_⟩
  simp only [Act.put, List.setIfInBounds_toArray, List.set_cons_zero, List.set_cons_succ]
  refine ord_call (f := 38) (args := #[.bool (n != n'), .slice A3 n3 k3, .int .i64 (s + s')]) (w1 := x3) (i := 17) (fuel := 4) (by simp; rfl) (by kernel_rfl) (by rfl) ?_ ?_
  · go_simp
    all_goals (first | with_reducible rfl | (cases n <;> cases n' <;> rfl))
  refine (make_all (n != n') A3 n3 k3 d3 _ (s + s') _ D3 N3 E3h.out).mono ?_
  rintro e x9 ⟨_, ⟨m4, c4, d4, q4, e4, D4, rfl⟩, rfl, hb⟩
  have V9 := V3.below hb
  have BX := BU.below hb BU.lt
  have HD4 := Lib.hid D4
  clear hb V3 BU D4 D3
  refine ⟨_, rfl, V9, ?_⟩
  simp only [Act.put, List.setIfInBounds_toArray, List.set_cons_zero, List.set_cons_succ]
  refine ord_take (v := ?_) (i := 18) (fuel := 3) (by simp; rfl) (by kernel_rfl) (by kernel_rfl) (by kernel_rfl) (Or.inl ⟨by rfl, fun w' hSw => ?_⟩) V9 ?_
  rotate_left
  · go_simp
    all_goals with_reducible rfl
  simp only [Act.put, List.setIfInBounds_toArray, List.set_cons_zero, List.set_cons_succ]
  refine ord_take (v := ?_) (i := 19) (fuel := 2) (by simp; rfl) (by kernel_rfl) (by kernel_rfl) (by kernel_rfl) (Or.inl ⟨by rfl, fun w' hSw => ?_⟩) V9 ?_
  rotate_left
  · go_simp
    all_goals with_reducible rfl
  simp only [Act.put, List.setIfInBounds_toArray, List.set_cons_zero, List.set_cons_succ]
  obtain ⟨lz, ⟨z0, z1, z2, z3⟩, y0, y1, y2, y3⟩ := blk_cells BX
  have VS1 := HB.set4 (a' := .bool m4) (b' := .int .u64 c4) (c' := .int .u64 d4) (d' := .int .i64 q4) V9 BX hlg hne
  have VS := HB.sub (bs' := [(w.heap.size + 1, 25, #[.bool n', .int .u64 a', .int .u64 b', .int .i64 s']), (w.heap.size, 25, #[.bool n, .int .u64 a, .int .u64 b, .int .i64 s])]) VS1 (by simp)
  refine ord_skip (w' := ((((x9.setCell ⟨w.heap.size + 1 + 1, 0, none⟩ (.bool m4)).setCell ⟨w.heap.size + 1 + 1, 1, none⟩ (.int .u64 c4)).setCell ⟨w.heap.size + 1 + 1, 2, none⟩ (.int .u64 d4)).setCell ⟨w.heap.size + 1 + 1, 3, none⟩ (.int .i64 q4))) (i := 20) (fuel := 1) (by simp; rfl) (by kernel_rfl) (by rfl) rfl ?_ VS ?_
  · go_simp
    all_goals with_reducible rfl
  refine ord_take (v := ?_) (i := 21) (fuel := 0) (by simp; rfl) (by kernel_rfl) (by kernel_rfl) (by kernel_rfl) (Or.inl ⟨by rfl, fun w' hSw => ?_⟩) VS ?_
  rotate_left
  · go_simp
    all_goals with_reducible rfl
  simp only [Act.put, List.setIfInBounds_toArray, List.set_cons_zero, List.set_cons_succ]
  obtain ⟨lt, t0, t1, t2, t3⟩ := HB.dec (t := 25) (g := w.heap.size + 1 + 1) (a := .bool m4) (b := .int .u64 c4) (c := .int .u64 d4) (d := .int .i64 q4) VS1 (by simp)
  have HB1 := Lib.hid VS.1
  clear VS VS1 V9 BX lz z0 z1 z2 z3 y0 y1 y2 y3
  refine ord_done (by kernel_rfl) ?_ _
  go_wp2
  exact bodyPost_ret (v := .tuple #[.agg #[.bool m4, .int .u64 c4, .int .u64 d4, .int .i64 q4], .int .i64 e4]) (by simp [results, Tryz.results12, go_sem, t0, t1, t2, t3]) rfl ⟨_, ⟨_, _, _, _, _, HD4.out, rfl⟩, rfl, HB1.out⟩
theorem rmul_all (n : Bool) (a b s : Int) (n' : Bool) (a' b' s' : Int) (w : World) (ha : U64 a) (hb1 : U64 b) (ha' : U64 a') (hb1' : U64 b') :
    Calls Tryz.prog 12 #[.agg #[.bool n, .int .u64 a, .int .u64 b, .int .i64 s], .agg #[.bool n', .int .u64 a', .int .u64 b', .int .i64 s']] w (Ret w (Ans (mulV n a b s n' a' b' s'))) := by
  unfold mulV
  by_cases hr : RightD n a b s
  · by_cases hr' : RightD n' a' b' s'
    · rw [if_pos ⟨hr, hr'⟩]
      exact rmul_yes n a b s n' a' b' s' w ha hb1 ha' hb1' hr hr'
    · rw [if_neg (fun h => hr' h.2)]
      exact rmul_no1 n a b s n' a' b' s' w ha hb1 ha' hb1' hr hr'
  · rw [if_neg (fun h => hr h.1)]
    exact rmul_no0 n a b s n' a' b' s' w ha hb1 hr
set_option maxRecDepth 100000 in
set_option maxHeartbeats 3200000 in
theorem rscaled_yes (n : Bool) (a b s t : Int) (w : World) (ha : U64 a) (hb1 : U64 b) (hr : RightD n a b s) (hst : s ≤ t) (h9 : t ≤ 9) :
    Calls Tryz.prog 13 #[.agg #[.bool n, .int .u64 a, .int .u64 b, .int .i64 s], .int .i64 t] w (Ret w (Ans (chkV n (upW a b s t) t))) := by
  have W : HB w [(w.heap.size + 1, 25, #[.bool false, .int .u64 0, .int .u64 0, .int .i64 0]), (w.heap.size, 25, #[.bool n, .int .u64 a, .int .u64 b, .int .i64 s])] ((w.alloc (.cells #[.bool n, .int .u64 a, .int .u64 b, .int .i64 s] 25)).alloc (.cells #[.bool false, .int .u64 0, .int .u64 0, .int .i64 0] 25)) := by
    have h := ((HB.start (Below.refl _ w)).push #[.bool n, .int .u64 a, .int .u64 b, .int .i64 s] 25).push #[.bool false, .int .u64 0, .int .u64 0, .int .i64 0] 25
    simpa using h
  have hlg : w.heap.size ≤ w.heap.size + 1 := by omega
  have h0 := hr.2.1
  have g1 : decide (t < s) = false := by simp; omega
  have g2 : decide (9 < t) = false := by simp; omega
  have HR := Lib.hid (decide_eq_true hr)
  clear hr
  go_enter Tryz.func13, Tryz.ntmps13
  go_wp2_with fail
  refine (rdec_v n a b s true _ ha hb1 HR.out).mono ?_
  rintro e w1 ⟨_, rfl, rfl, hb⟩
  replace W := W.below hb
  clear hb
  obtain ⟨lp, p0, p1, p2, p3⟩ := HB.dec (t := 25) (g := w.heap.size) (a := .bool n) (b := .int .u64 a) (c := .int .u64 b) (d := .int .i64 s) W (by simp)
  have BZ : Blk w1 (w.heap.size + 1) 25 #[.bool false, .int .u64 0, .int .u64 0, .int .i64 0] := HB.blk (g := w.heap.size + 1) (t := 25) (cs := #[.bool false, .int .u64 0, .int .u64 0, .int .i64 0]) W (by simp)
  have VD : HB w [(w.heap.size, 25, #[.bool n, .int .u64 a, .int .u64 b, .int .i64 s])] w1.drew := (HB.sub W (by simp)).drew
  have hne : ∀ b0 ∈ ([(w.heap.size, 25, #[.bool n, .int .u64 a, .int .u64 b, .int .i64 s])] : List (Nat × TypeId × Array Value)), b0.1 ≠ w.heap.size + 1 := by intro b0 hb; simp at hb; subst hb; simp
  clear W
  go_upto_region 3 with fail
  clear lp p0 p1 p2 p3
  refine wp_region_ord (S := fun W => HB w [(w.heap.size, 25, #[.bool n, .int .u64 a, .int .u64 b, .int .i64 s])] W) (by kernel_rfl) ?_
  refine ord_take (v := ?_) (i := 0) (fuel := 10) (by simp; rfl) (by kernel_rfl) (by kernel_rfl) (by kernel_rfl) (Or.inl ⟨by rfl, fun w' hSw => ?_⟩) VD ?_
  rotate_left
  · go_simp
    all_goals with_reducible rfl
  simp only [Act.put, List.setIfInBounds_toArray, List.set_cons_zero, List.set_cons_succ]
  refine ord_take (v := ?_) (i := 1) (fuel := 9) (by simp; rfl) (by kernel_rfl) (by kernel_rfl) (by kernel_rfl) (Or.inl ⟨by rfl, fun w' hSw => ?_⟩) VD ?_
  rotate_left
  · dsimp only at hSw
    obtain ⟨ql, q0, q1, q2, q3⟩ := HB.dec (t := 25) (g := w.heap.size) (a := .bool n) (b := .int .u64 a) (c := .int .u64 b) (d := .int .i64 s) hSw (by simp)
    go_simp
    all_goals with_reducible rfl
  simp only [Act.put, List.setIfInBounds_toArray, List.set_cons_zero, List.set_cons_succ]
  refine ord_take (v := ?_) (i := 2) (fuel := 8) (by simp; rfl) (by kernel_rfl) (by kernel_rfl) (by kernel_rfl) (Or.inl ⟨by rfl, fun w' hSw => ?_⟩) VD ?_
  rotate_left
  · dsimp only at hSw
    obtain ⟨ql, q0, q1, q2, q3⟩ := HB.dec (t := 25) (g := w.heap.size) (a := .bool n) (b := .int .u64 a) (c := .int .u64 b) (d := .int .i64 s) hSw (by simp)
    go_simp
    all_goals with_reducible rfl
  simp only [Act.put, List.setIfInBounds_toArray, List.set_cons_zero, List.set_cons_succ]
  refine ord_take (v := ?_) (i := 3) (fuel := 7) (by simp; rfl) (by kernel_rfl) (by kernel_rfl) (by kernel_rfl) (Or.inl ⟨by rfl, fun w' hSw => ?_⟩) VD ?_
  rotate_left
  · go_simp
    all_goals with_reducible rfl
  simp only [Act.put, List.setIfInBounds_toArray, List.set_cons_zero, List.set_cons_succ]
  refine ord_take (v := ?_) (i := 5) (fuel := 6) (by simp; rfl) (by kernel_rfl) (by kernel_rfl) (by kernel_rfl) (Or.inl ⟨by rfl, fun w' hSw => ?_⟩) VD ?_
  rotate_left
  · go_simp
    all_goals with_reducible rfl
  simp only [Act.put, List.setIfInBounds_toArray, List.set_cons_zero, List.set_cons_succ]
  refine ord_call (f := 37) (args := #[.agg #[.bool n, .int .u64 a, .int .u64 b, .int .i64 s], .int .i64 t]) (w1 := w1.drew) (i := 4) (fuel := 5) (by simp; rfl) (by kernel_rfl) (by rfl) ?_ ?_
  · go_simp
    all_goals with_reducible rfl
  refine (rdigits_c n a b s t _ ha hb1 h0 hst h9).mono ?_
  rintro e x1 ⟨A1, n1, k1, d1, ⟨D1, N1, E1⟩, rfl, hb⟩
  have V1 := VD.below hb
  have BY := (show Blk w1.drew (w.heap.size + 1) 25 #[.bool false, .int .u64 0, .int .u64 0, .int .i64 0] from BZ).below hb BZ.lt
  have E1h := Lib.hid E1
  clear hb VD BZ E1
  refine ⟨_, rfl, V1, ?_⟩
  simp only [Act.put, List.setIfInBounds_toArray, List.set_cons_zero, List.set_cons_succ]
  refine ord_call (f := 38) (args := #[.bool n, .slice A1 n1 k1, .int .i64 t]) (w1 := x1) (i := 6) (fuel := 4) (by simp; rfl) (by kernel_rfl) (by rfl) ?_ ?_
  · go_simp
    all_goals with_reducible rfl
  refine (make_all n A1 n1 k1 d1 _ t _ D1 N1 E1h.out).mono ?_
  rintro e x9 ⟨_, ⟨m4, c4, d4, q4, e4, D4, rfl⟩, rfl, hb⟩
  have V9 := V1.below hb
  have BX := BY.below hb BY.lt
  have HD4 := Lib.hid D4
  clear hb V1 BY D4 D1
  refine ⟨_, rfl, V9, ?_⟩
  simp only [Act.put, List.setIfInBounds_toArray, List.set_cons_zero, List.set_cons_succ]
  refine ord_take (v := ?_) (i := 7) (fuel := 3) (by simp; rfl) (by kernel_rfl) (by kernel_rfl) (by kernel_rfl) (Or.inl ⟨by rfl, fun w' hSw => ?_⟩) V9 ?_
  rotate_left
  · go_simp
    all_goals with_reducible rfl
  simp only [Act.put, List.setIfInBounds_toArray, List.set_cons_zero, List.set_cons_succ]
  refine ord_take (v := ?_) (i := 8) (fuel := 2) (by simp; rfl) (by kernel_rfl) (by kernel_rfl) (by kernel_rfl) (Or.inl ⟨by rfl, fun w' hSw => ?_⟩) V9 ?_
  rotate_left
  · go_simp
    all_goals with_reducible rfl
  simp only [Act.put, List.setIfInBounds_toArray, List.set_cons_zero, List.set_cons_succ]
  obtain ⟨lz, ⟨z0, z1, z2, z3⟩, y0, y1, y2, y3⟩ := blk_cells BX
  have VS1 := HB.set4 (a' := .bool m4) (b' := .int .u64 c4) (c' := .int .u64 d4) (d' := .int .i64 q4) V9 BX hlg hne
  have VS := HB.sub (bs' := [(w.heap.size, 25, #[.bool n, .int .u64 a, .int .u64 b, .int .i64 s])]) VS1 (by simp)
  refine ord_skip (w' := ((((x9.setCell ⟨w.heap.size + 1, 0, none⟩ (.bool m4)).setCell ⟨w.heap.size + 1, 1, none⟩ (.int .u64 c4)).setCell ⟨w.heap.size + 1, 2, none⟩ (.int .u64 d4)).setCell ⟨w.heap.size + 1, 3, none⟩ (.int .i64 q4))) (i := 9) (fuel := 1) (by simp; rfl) (by kernel_rfl) (by rfl) rfl ?_ VS ?_
  · go_simp
    all_goals with_reducible rfl
  refine ord_take (v := ?_) (i := 10) (fuel := 0) (by simp; rfl) (by kernel_rfl) (by kernel_rfl) (by kernel_rfl) (Or.inl ⟨by rfl, fun w' hSw => ?_⟩) VS ?_
  rotate_left
  · go_simp
    all_goals with_reducible rfl
  simp only [Act.put, List.setIfInBounds_toArray, List.set_cons_zero, List.set_cons_succ]
  obtain ⟨lt, t0, t1, t2, t3⟩ := HB.dec (t := 25) (g := w.heap.size + 1) (a := .bool m4) (b := .int .u64 c4) (c := .int .u64 d4) (d := .int .i64 q4) VS1 (by simp)
  have HB1 := Lib.hid VS.1
  clear VS VS1 V9 BX lz z0 z1 z2 z3 y0 y1 y2 y3
  refine ord_done (by kernel_rfl) ?_ _
  go_wp2
  exact bodyPost_ret (v := .tuple #[.agg #[.bool m4, .int .u64 c4, .int .u64 d4, .int .i64 q4], .int .i64 e4]) (by simp [results, Tryz.results13, go_sem, t0, t1, t2, t3]) rfl ⟨_, ⟨_, _, _, _, _, HD4.out, rfl⟩, rfl, HB1.out⟩
set_option maxRecDepth 100000 in
set_option maxHeartbeats 3200000 in
theorem rscaled_no (n : Bool) (a b s t : Int) (w : World) (ha : U64 a) (hb1 : U64 b) (hr : ¬ RightD n a b s) :
    Calls Tryz.prog 13 #[.agg #[.bool n, .int .u64 a, .int .u64 b, .int .i64 s], .int .i64 t] w (Ret w (Ans (errV 1))) := by
  have W : HB w [(w.heap.size + 1, 25, #[.bool false, .int .u64 0, .int .u64 0, .int .i64 0]), (w.heap.size, 25, #[.bool n, .int .u64 a, .int .u64 b, .int .i64 s])] ((w.alloc (.cells #[.bool n, .int .u64 a, .int .u64 b, .int .i64 s] 25)).alloc (.cells #[.bool false, .int .u64 0, .int .u64 0, .int .i64 0] 25)) := by
    have h := ((HB.start (Below.refl _ w)).push #[.bool n, .int .u64 a, .int .u64 b, .int .i64 s] 25).push #[.bool false, .int .u64 0, .int .u64 0, .int .i64 0] 25
    simpa using h
  have hlg : w.heap.size ≤ w.heap.size + 1 := by omega
  have HR := Lib.hid (decide_eq_false hr)
  clear hr
  go_enter Tryz.func13, Tryz.ntmps13
  go_wp2_with fail
  refine (rdec_v n a b s false _ ha hb1 HR.out).mono ?_
  rintro e w1 ⟨_, rfl, rfl, hb⟩
  replace W := W.below hb
  clear hb
  obtain ⟨lq, q0, q1, q2, q3⟩ := HB.dec (t := 25) (g := w.heap.size + 1) (a := .bool false) (b := .int .u64 0) (c := .int .u64 0) (d := .int .i64 0) W (by simp)
  have Bz := HB.blk (g := w.heap.size + 1) (t := 25) (cs := #[.bool false, .int .u64 0, .int .u64 0, .int .i64 0]) W (by simp)
  have fz0 := Bz.frozen 0
  have fz1 := Bz.frozen 1
  have fz2 := Bz.frozen 2
  have fz3 := Bz.frozen 3
  clear Bz
  have HB1 := Lib.hid W.1
  clear W
  go_wp2
  exact bodyPost_ret (v := .tuple #[.agg #[.bool false, .int .u64 0, .int .u64 0, .int .i64 0], .int .i64 1]) (by simp [results, Tryz.results13, go_sem, q0, q1, q2, q3]) rfl ⟨_, ans_err 1, rfl, bel4 HB1.out hlg⟩
set_option maxRecDepth 100000 in
set_option maxHeartbeats 3200000 in
theorem rscaled_lo (n : Bool) (a b s t : Int) (w : World) (ha : U64 a) (hb1 : U64 b) (hr : RightD n a b s) (hts : t < s) :
    Calls Tryz.prog 13 #[.agg #[.bool n, .int .u64 a, .int .u64 b, .int .i64 s], .int .i64 t] w (Ret w (Ans (errV 1))) := by
  have W : HB w [(w.heap.size + 1, 25, #[.bool false, .int .u64 0, .int .u64 0, .int .i64 0]), (w.heap.size, 25, #[.bool n, .int .u64 a, .int .u64 b, .int .i64 s])] ((w.alloc (.cells #[.bool n, .int .u64 a, .int .u64 b, .int .i64 s] 25)).alloc (.cells #[.bool false, .int .u64 0, .int .u64 0, .int .i64 0] 25)) := by
    have h := ((HB.start (Below.refl _ w)).push #[.bool n, .int .u64 a, .int .u64 b, .int .i64 s] 25).push #[.bool false, .int .u64 0, .int .u64 0, .int .i64 0] 25
    simpa using h
  have hlg : w.heap.size ≤ w.heap.size + 1 := by omega
  have h0 := hr.2.1
  have HR := Lib.hid (decide_eq_true hr)
  clear hr
  go_enter Tryz.func13, Tryz.ntmps13
  go_wp2_with fail
  refine (rdec_v n a b s true _ ha hb1 HR.out).mono ?_
  rintro e w1 ⟨_, rfl, rfl, hb⟩
  replace W := W.below hb
  clear hb
  obtain ⟨lp, p0, p1, p2, p3⟩ := HB.dec (t := 25) (g := w.heap.size) (a := .bool n) (b := .int .u64 a) (c := .int .u64 b) (d := .int .i64 s) W (by simp)
  obtain ⟨lq, q0, q1, q2, q3⟩ := HB.dec (t := 25) (g := w.heap.size + 1) (a := .bool false) (b := .int .u64 0) (c := .int .u64 0) (d := .int .i64 0) W (by simp)
  have Bz := HB.blk (g := w.heap.size + 1) (t := 25) (cs := #[.bool false, .int .u64 0, .int .u64 0, .int .i64 0]) W (by simp)
  have fz0 := Bz.frozen 0
  have fz1 := Bz.frozen 1
  have fz2 := Bz.frozen 2
  have fz3 := Bz.frozen 3
  clear Bz
  have HB1 := Lib.hid W.1
  clear W
  go_wp2
  exact bodyPost_ret (v := .tuple #[.agg #[.bool false, .int .u64 0, .int .u64 0, .int .i64 0], .int .i64 1]) (by simp [results, Tryz.results13, go_sem, q0, q1, q2, q3]) rfl ⟨_, ans_err 1, rfl, bel4 HB1.out hlg⟩
set_option maxRecDepth 100000 in
set_option maxHeartbeats 3200000 in
theorem rscaled_hi (n : Bool) (a b s t : Int) (w : World) (ha : U64 a) (hb1 : U64 b) (hr : RightD n a b s) (hst : s ≤ t) (h9 : 9 < t) :
    Calls Tryz.prog 13 #[.agg #[.bool n, .int .u64 a, .int .u64 b, .int .i64 s], .int .i64 t] w (Ret w (Ans (errV 1))) := by
  have W : HB w [(w.heap.size + 1, 25, #[.bool false, .int .u64 0, .int .u64 0, .int .i64 0]), (w.heap.size, 25, #[.bool n, .int .u64 a, .int .u64 b, .int .i64 s])] ((w.alloc (.cells #[.bool n, .int .u64 a, .int .u64 b, .int .i64 s] 25)).alloc (.cells #[.bool false, .int .u64 0, .int .u64 0, .int .i64 0] 25)) := by
    have h := ((HB.start (Below.refl _ w)).push #[.bool n, .int .u64 a, .int .u64 b, .int .i64 s] 25).push #[.bool false, .int .u64 0, .int .u64 0, .int .i64 0] 25
    simpa using h
  have hlg : w.heap.size ≤ w.heap.size + 1 := by omega
  have h0 := hr.2.1
  have g1 : decide (t < s) = false := by simp; omega
  have HR := Lib.hid (decide_eq_true hr)
  clear hr
  go_enter Tryz.func13, Tryz.ntmps13
  go_wp2_with fail
  refine (rdec_v n a b s true _ ha hb1 HR.out).mono ?_
  rintro e w1 ⟨_, rfl, rfl, hb⟩
  replace W := W.below hb
  clear hb
  obtain ⟨lp, p0, p1, p2, p3⟩ := HB.dec (t := 25) (g := w.heap.size) (a := .bool n) (b := .int .u64 a) (c := .int .u64 b) (d := .int .i64 s) W (by simp)
  obtain ⟨lq, q0, q1, q2, q3⟩ := HB.dec (t := 25) (g := w.heap.size + 1) (a := .bool false) (b := .int .u64 0) (c := .int .u64 0) (d := .int .i64 0) W (by simp)
  have Bz := HB.blk (g := w.heap.size + 1) (t := 25) (cs := #[.bool false, .int .u64 0, .int .u64 0, .int .i64 0]) W (by simp)
  have fz0 := Bz.frozen 0
  have fz1 := Bz.frozen 1
  have fz2 := Bz.frozen 2
  have fz3 := Bz.frozen 3
  clear Bz
  have HB1 := Lib.hid W.1
  clear W
  go_wp2
  exact bodyPost_ret (v := .tuple #[.agg #[.bool false, .int .u64 0, .int .u64 0, .int .i64 0], .int .i64 1]) (by simp [results, Tryz.results13, go_sem, q0, q1, q2, q3]) rfl ⟨_, ans_err 1, rfl, bel4 HB1.out hlg⟩
theorem rscaled_all (n : Bool) (a b s t : Int) (w : World) (ha : U64 a) (hb1 : U64 b) :
    Calls Tryz.prog 13 #[.agg #[.bool n, .int .u64 a, .int .u64 b, .int .i64 s], .int .i64 t] w (Ret w (Ans (scaledV n a b s t))) := by
  unfold scaledV
  by_cases hr : RightD n a b s
  · by_cases hst : s ≤ t
    · by_cases h9 : t ≤ 9
      · rw [if_pos ⟨hr, hst, h9⟩, zAt_zOf]
        have h0 := hr.2.1
        exact ans_of (rscaled_yes n a b s t w ha hb1 hr hst h9) (chk_z _ _ _ (by omega) h9)
      · rw [if_neg (fun h => h9 h.2.2)]
        exact rscaled_hi n a b s t w ha hb1 hr hst (by omega)
    · rw [if_neg (fun h => hst h.2.1)]
      exact rscaled_lo n a b s t w ha hb1 hr (by omega)
  · rw [if_neg (fun h => hr h.1)]
    exact rscaled_no n a b s t w ha hb1 hr
end Go.Proofs.YtlhceelkefgjhaaGreatDoor

/- pyxlaw2.DecScales. -/
import Derived.Test.YtipjeepcgdmomaaDoorGreatA
import Derived.Test.YtipjeepcgdmomaaDoorRefP
import Derived.Test.YtipjeepcgdmomaaDoorTextI
import Derived.Test.YtipjeepcgdmomaaDoorOrd
import Derived.Test.YtipjeepcgdmomaaDoorHand
import Derived.Deep.DeepCutAuto
namespace Go.Proofs.YtipjeepcgdmomaaDoor
open Go.RowKit
theorem cmp_gv (n : Bool) (a b s z : Int) (n' : Bool) (a' b' s' z' t c : Int) (w : World) (h : DecIs n a b z) (h' : DecIs n' a' b' z') (hz : Gr z s t) (hz' : Gr z' s' t) (h0 : 0 ≤ s) (h0' : 0 ≤ s') (h9 : s ≤ 9) (h9' : s' ≤ 9) (ht : (s < s' ∧ s' = t) ∨ (s' ≤ s ∧ s = t)) (hc : cmpZ (zAt z s t) (zAt z' s' t) = c) :
    Calls Tryd.prog 8 #[.agg #[.bool n, .int .u64 a, .int .u64 b, .int .i64 s], .agg #[.bool n', .int .u64 a', .int .u64 b', .int .i64 s']] w (Ret w (· = .int .i64 c)) := by
  subst hc
  exact cmp_g n a b s z n' a' b' s' z' t w h h' hz hz' h0 h0' h9 h9' ht
theorem sign_gv (n : Bool) (a b s z c : Int) (w : World) (h : DecIs n a b z) (hz : z.natAbs < 1000000000000000000000000000000) (h0 : 0 ≤ s) (h9 : s ≤ 9) (hc : z.sign = c) :
    Calls Tryd.prog 9 #[.agg #[.bool n, .int .u64 a, .int .u64 b, .int .i64 s]] w (Ret w (· = .int .i64 c)) := by
  subst hc
  exact sign_d n a b s z w h hz h0 h9
theorem right_dg {n : Bool} {a b z s : Int} (h : DecIs n a b z) (hz : z.natAbs < 1000000000000000000000000000000) (h0 : 0 ≤ s) (h9 : s ≤ 9) : RightD n a b s := by
  obtain ⟨rfl, _, _, e⟩ := h
  refine ⟨by rw [e]; exact hz, h0, h9, ?_⟩
  rintro ⟨h1, h2⟩
  rw [e] at h2
  have := of_decide_eq_true h1
  omega
theorem pow_nat_pos (k : Nat) : (0 : Int) < ((10 ^ k : Nat) : Int) := by
  have := Nat.pow_pos (n := k) (show 0 < 10 by decide)
  omega
theorem zAt_sign (z s t : Int) : (zAt z s t).sign = z.sign := by
  unfold zAt
  rw [Int.sign_mul, Int.sign_eq_one_of_pos (pow_nat_pos _), Int.mul_one]
theorem zAt_neg (z s t : Int) : decide (zAt z s t < 0) = decide (z < 0) := by
  unfold zAt
  have hp := pow_nat_pos (t - s).toNat
  apply decide_eq_decide.2
  constructor
  · intro h
    rcases Int.lt_or_le z 0 with h' | h'
    · exact h'
    · have := Int.mul_nonneg h' (Int.le_of_lt hp)
      omega
  · intro h
    exact Int.mul_neg_of_neg_of_pos h hp
theorem zAt_nat (z s t : Int) : (zAt z s t).natAbs = z.natAbs * 10 ^ (t - s).toNat := by unfold zAt; rw [Int.natAbs_mul, Int.natAbs_natCast]
theorem zAt_same (z s : Int) : zAt z s s = z := by unfold zAt; simp
theorem cmpZ_same (a : Int) : cmpZ a a = 0 := by unfold cmpZ; simp
theorem gr_small {z s t : Int} (hz : z.natAbs ≤ 9223372036854775808) (h0 : 0 ≤ s) (h9 : t ≤ 9) : Gr z s t := by
  unfold Gr upN
  have h1 := pow10_9 (show (t - s).toNat ≤ 9 by omega)
  have h2 : z.natAbs * 10 ^ (t - s).toNat ≤ 9223372036854775808 * 1000000000 := Nat.mul_le_mul hz h1
  omega
set_option maxRecDepth 100000 in
set_option maxHeartbeats 1600000 in
theorem scaled_no (n : Bool) (a b s z t : Int) (w : World) (h : DecIs n a b z) (hz : z.natAbs < 1000000000000000000000000000000) (h0 : 0 ≤ s) (s9 : s ≤ 9) (hno : t < s ∨ 9 < t) :
    Calls Tryd.prog 6 #[.agg #[.bool n, .int .u64 a, .int .u64 b, .int .i64 s], .int .i64 t] w (Ret w (· = .tuple #[.agg #[.bool false, .int .u64 0, .int .u64 0, .int .i64 0], .int .i64 1])) := by
  have HH := Lib.hid h
  have HZ := Lib.hid hz
  clear h hz
  have W : HB w [(w.heap.size + 1, 26, #[.bool false, .int .u64 0, .int .u64 0, .int .i64 0]), (w.heap.size, 26, #[.bool n, .int .u64 a, .int .u64 b, .int .i64 s])] ((w.alloc (.cells #[.bool n, .int .u64 a, .int .u64 b, .int .i64 s] 26)).alloc (.cells #[.bool false, .int .u64 0, .int .u64 0, .int .i64 0] 26)) := by
    have h := ((HB.start (Below.refl _ w)).push #[.bool n, .int .u64 a, .int .u64 b, .int .i64 s] 26).push #[.bool false, .int .u64 0, .int .u64 0, .int .i64 0] 26
    simpa using h
  have hlg : w.heap.size ≤ w.heap.size + 1 := by omega
  go_enter Tryd.func6, Tryd.ntmps6
  go_wp2_with fail
  refine (right_d n a b s z _ HH.out HZ.out h0 s9).mono ?_
  rintro e w1 ⟨_, rfl, rfl, hb⟩
  replace W := W.below hb
  clear hb
  obtain ⟨lq, q0, q1, q2, q3⟩ := HB.dec (t := 26) (g := w.heap.size) (a := .bool n) (b := .int .u64 a) (c := .int .u64 b) (d := .int .i64 s) W (by simp)
  obtain ⟨ly, y0, y1, y2, y3⟩ := HB.dec (t := 26) (g := w.heap.size + 1) (a := .bool false) (b := .int .u64 0) (c := .int .u64 0) (d := .int .i64 0) W (by simp)
  have Bz := HB.blk (g := w.heap.size + 1) (t := 26) (cs := #[.bool false, .int .u64 0, .int .u64 0, .int .i64 0]) W (by simp)
  have fz0 := Bz.frozen 0
  have fz1 := Bz.frozen 1
  have fz2 := Bz.frozen 2
  have fz3 := Bz.frozen 3
  clear Bz
  have HB1 := Lib.hid W.1
  clear W
  by_cases hts : t < s
  · clear hno
    go_wp2
    exact bodyPost_ret (v := .tuple #[.agg #[.bool false, .int .u64 0, .int .u64 0, .int .i64 0], .int .i64 1]) (by simp [results, Tryd.results6, go_sem, y0, y1, y2, y3]) rfl ⟨_, rfl, rfl, (((HB1.out.setCell (p := ⟨w.heap.size + 1, 0, none⟩) hlg _).setCell (p := ⟨w.heap.size + 1, 1, none⟩) hlg _).setCell (p := ⟨w.heap.size + 1, 2, none⟩) hlg _).setCell (p := ⟨w.heap.size + 1, 3, none⟩) hlg _⟩
  · have h9 : 9 < t := by omega
    clear hno
    go_wp2
    exact bodyPost_ret (v := .tuple #[.agg #[.bool false, .int .u64 0, .int .u64 0, .int .i64 0], .int .i64 1]) (by simp [results, Tryd.results6, go_sem, y0, y1, y2, y3]) rfl ⟨_, rfl, rfl, (((HB1.out.setCell (p := ⟨w.heap.size + 1, 0, none⟩) hlg _).setCell (p := ⟨w.heap.size + 1, 1, none⟩) hlg _).setCell (p := ⟨w.heap.size + 1, 2, none⟩) hlg _).setCell (p := ⟨w.heap.size + 1, 3, none⟩) hlg _⟩
theorem zeros_snoc (j : Nat) : Lib.repeatL [48] (j + 1) = Lib.repeatL [48] j ++ [48] := by
  apply digs_eq
  · rw [List.length_append, zeros_len, zeros_len]
    rfl
  · exact zeros_dig _
  · rw [List.all_append, zeros_dig]
    rfl
  · rw [zeros_num, numL_snoc, zeros_num]
    rfl
theorem print_len (n : Bool) (N : Nat) (s : Int) (hN : N < 1000000000000000000000000000000) (h0 : 0 ≤ s) (h9 : s ≤ 9) : (printL n N s).length ≤ 300 := by
  have h1 := figL_le N (s + 1) hN (by omega)
  have h2 : (dotL (figL N (s + 1)) s).length ≤ 250 := by
    unfold dotL
    split
    · omega
    · rw [List.length_append, List.length_append, List.length_take, List.length_drop]
      simp
      omega
  unfold printL
  split
  · simp
    omega
  · omega
def dotS (s t : Int) : List UInt8 := if s = 0 ∧ 0 < t then [46] else []
theorem print_at (n : Bool) (N : Nat) (s t : Int) (h0 : 0 ≤ s) (hst : s ≤ t) : printL n (N * 10 ^ (t - s).toNat) t = printL n N s ++ dotS s t ++ Lib.repeatL [48] (t - s).toNat := by
  unfold dotS
  rcases Int.lt_or_eq_of_le hst with h | h
  · have := print_up n N (t - s).toNat s h0 (by omega)
    rw [show s + ((t - s).toNat : Int) = t by omega] at this
    rw [this]
    by_cases hs : s = 0
    · rw [if_pos hs, if_pos ⟨hs, by omega⟩]
    · rw [if_neg hs, if_neg (fun h => hs h.1)]
  · subst h
    rw [if_neg (by omega), Int.sub_self]
    simp [Lib.repeatL]
set_option maxRecDepth 100000 in
set_option maxHeartbeats 12800000 in
theorem scales_c (z ps pt mx : Int) (w : World) (hz : (Lit.int .i64 z).wf = true) (hm : w.cell? ⟨0, 0, none⟩ = some (.int .i64 mx)) (htab : Lib.TabIs Tryd.prog w "internal/strconv.uint64pow10" .u64 Lib.pow10Tab) :
    Calls Tryd.prog 3 #[.int .i64 z, .int .i64 ps, .int .i64 pt] w (Ret w (IsBool true)) := by
  have hz2 : -9223372036854775808 ≤ z ∧ z ≤ 9223372036854775807 := by
    simp [Lit.wf, IntKind.min, IntKind.max, IntKind.signed, IntKind.bits] at hz
    omega
  have HZ := Lib.hid hz2
  have HZA := Lib.hid (show z.natAbs ≤ 9223372036854775808 by omega)
  have HT := Lib.hid htab
  have HMX := Lib.hid hm
  clear htab hm hz hz2
  go_enter Tryd.func3, Tryd.ntmps3
  have V := HB.start (Below.refl w.heap.size w)
  go_wp2_with fail
  refine (pick_c _ 10 _ (by omega) (by omega)).mono ?_
  rintro e w' ⟨_, ⟨s, ⟨s0, s10⟩, rfl⟩, rfl, rfl⟩
  have s9 : s ≤ 9 := by omega
  clear s10
  go_wp2_with fail
  refine (pick_c _ 13 _ (by omega) (by omega)).mono ?_
  rintro e w' ⟨_, ⟨v, ⟨v0, v13⟩, rfl⟩, rfl, rfl⟩
  obtain ⟨t, ht⟩ : ∃ t : Int, v - 2 = t := ⟨_, rfl⟩
  have tlo : -2 ≤ t := by omega
  have thi : t ≤ 10 := by omega
  clear v0 v13
  go_wp2_with fail
  refine (refOf_c z s _ HZ.out.1 HZ.out.2 s0 s9).mono ?_
  rintro e w1 ⟨_, ⟨n1, a1, b1, D1, rfl⟩, rfl, hb⟩
  replace V := V.below hb
  clear hb
  have HD1 := Lib.hid D1
  have HZ30 := Lib.hid (show z.natAbs < 1000000000000000000000000000000 by have := HZA.out; omega)
  replace V := V.push #[.bool n1, .int .u64 a1, .int .u64 b1, .int .i64 s] 26
  by_cases hno : t < s ∨ 9 < t
  · have HNO := Lib.hid hno
    clear hno D1
    go_wp2_with fail
    refine (scaled_no n1 a1 b1 s z t _ HD1.out HZ30.out s0 s9 HNO.out).mono ?_
    rintro e w2 ⟨_, rfl, rfl, hb⟩
    replace V := V.below hb
    clear hb
    replace V := V.push #[.bool false, .int .u64 0, .int .u64 0, .int .i64 0] 26
    rcases HNO.out with hts | hts
    all_goals
      go_wp2_with fail
      refine (known_c mx _ (cell_keep V.1 HMX.out) (tabIs_below HT.out V.1)).mono ?_
      rintro e w3 ⟨_, rfl, rfl, hb⟩
      replace V := V.below hb
      clear hb
      obtain ⟨l0, x0, x1, x2, x3⟩ := HB.dec (t := 26) (g := w2.heap.size) (a := .bool false) (b := .int .u64 0) (c := .int .u64 0) (d := .int .i64 0) V (by simp)
      have HB1 := Lib.hid V.1
      clear V
      go_wp2
      go_ret
      exact ⟨_, rfl, rfl, HB1.out⟩
  · have hst : s ≤ t := by omega
    have t9 : t ≤ 9 := by omega
    have t0 : 0 ≤ t := by omega
    clear hno D1
    have HG := Lib.hid (gr_small HZA.out s0 t9)
    have HG2 := Lib.hid (show Gr (zAt z s t) t t by
      have := HG.out
      unfold Gr upN at this ⊢
      rw [zAt_nat, Int.sub_self]
      simpa using this)
    have HC := Lib.hid (show cmpZ (zAt z s t) (zAt (zAt z s t) t t) = 0 by rw [zAt_same]; exact cmpZ_same _)
    obtain ⟨σ, hσ⟩ : ∃ σ, z.sign = σ := ⟨_, rfl⟩
    have HSg := Lib.hid hσ
    have HSg2 := Lib.hid (show (zAt z s t).sign = σ by rw [zAt_sign]; exact hσ)
    have HZ31 := Lib.hid (show (zAt z s t).natAbs < 1000000000000000000000000000000 from gr_30 HG2.out)
    clear hσ
    go_wp2_with fail
    refine (scaled_g n1 a1 b1 s z t _ HD1.out HG.out s0 hst t9).mono ?_
    rintro e w2 ⟨_, ⟨n2, a2, b2, D2, rfl⟩, rfl, hb⟩
    replace V := V.below hb
    clear hb
    have HD2 := Lib.hid D2
    have en : n2 = n1 := by rw [D2.1, HD1.out.1]; exact zAt_neg _ _ _
    obtain ⟨N2, hN2⟩ : ∃ N, v2 a2 b2 = N := ⟨_, rfl⟩
    have HN2 := Lib.hid hN2
    have HPR0 := Lib.hid (show printL n2 N2 t = printL n1 z.natAbs s ++ dotS s t ++ Lib.repeatL [48] (t - s).toNat by
      rw [← hN2, D2.2.2.2, zAt_nat, en]
      exact print_at n1 z.natAbs s t s0 hst)
    clear D2 en hN2
    replace V := V.push #[.bool n2, .int .u64 a2, .int .u64 b2, .int .i64 t] 26
    go_upto_region 7 with fail
    go_cut [63] (fun c' wx => c' = .bool false ∧ HB w [(w2.heap.size, 26, #[.bool n2, .int .u64 a2, .int .u64 b2, .int .i64 t]), (w1.heap.size, 26, #[.bool n1, .int .u64 a1, .int .u64 b1, .int .i64 s])] wx)
    case first =>
      as_aux_lemma =>
      have HS0 := Lib.hid (HB.drew V)
      clear V
      refine wp_region_ord (S := fun W => HB w [(w2.heap.size, 26, #[.bool n2, .int .u64 a2, .int .u64 b2, .int .i64 t]), (w1.heap.size, 26, #[.bool n1, .int .u64 a1, .int .u64 b1, .int .i64 s])] W) (by kernel_rfl) ?_
      refine ord_take (v := ?_) (i := 0) (fuel := 20) (by simp; rfl) (by kernel_rfl) (by kernel_rfl) (by kernel_rfl) (Or.inl ⟨by rfl, fun w' hSw => ?_⟩) HS0.out ?_
      rotate_left
      · go_simp
        all_goals with_reducible rfl
      simp only [Act.put, List.setIfInBounds_toArray, List.set_cons_zero, List.set_cons_succ]
      refine ord_take (v := ?_) (i := 1) (fuel := 19) (by simp; rfl) (by kernel_rfl) (by kernel_rfl) (by kernel_rfl) (Or.inl ⟨by rfl, fun w' hSw => ?_⟩) HS0.out ?_
      rotate_left
      · go_simp
        all_goals with_reducible rfl
      simp only [Act.put, List.setIfInBounds_toArray, List.set_cons_zero, List.set_cons_succ]
      refine ord_take (v := ?_) (i := 2) (fuel := 18) (by simp; rfl) (by kernel_rfl) (by kernel_rfl) (by kernel_rfl) (Or.inl ⟨by rfl, fun w' hSw => ?_⟩) HS0.out ?_
      rotate_left
      · go_simp
        all_goals with_reducible rfl
      simp only [Act.put, List.setIfInBounds_toArray, List.set_cons_zero, List.set_cons_succ]
      refine ord_take (v := ?_) (i := 3) (fuel := 17) (by simp; rfl) (by kernel_rfl) (by kernel_rfl) (by kernel_rfl) (Or.inl ⟨by rfl, fun w' hSw => ?_⟩) HS0.out ?_
      rotate_left
      · dsimp only at hSw
        obtain ⟨_, x0, x1, x2, x3⟩ := HB.dec (t := 26) (g := w1.heap.size) (a := .bool n1) (b := .int .u64 a1) (c := .int .u64 b1) (d := .int .i64 s) hSw (by simp)
        go_simp
        all_goals with_reducible rfl
      simp only [Act.put, List.setIfInBounds_toArray, List.set_cons_zero, List.set_cons_succ]
      refine ord_take (v := ?_) (i := 4) (fuel := 16) (by simp; rfl) (by kernel_rfl) (by kernel_rfl) (by kernel_rfl) (Or.inl ⟨by rfl, fun w' hSw => ?_⟩) HS0.out ?_
      rotate_left
      · dsimp only at hSw
        obtain ⟨_, x0, x1, x2, x3⟩ := HB.dec (t := 26) (g := w2.heap.size) (a := .bool n2) (b := .int .u64 a2) (c := .int .u64 b2) (d := .int .i64 t) hSw (by simp)
        go_simp
        all_goals with_reducible rfl
      simp only [Act.put, List.setIfInBounds_toArray, List.set_cons_zero, List.set_cons_succ]
      refine ord_call (f := 8) (args := #[.agg #[.bool n1, .int .u64 a1, .int .u64 b1, .int .i64 s], .agg #[.bool n2, .int .u64 a2, .int .u64 b2, .int .i64 t]]) (w1 := (w2.alloc (.cells #[.bool n2, .int .u64 a2, .int .u64 b2, .int .i64 t] 26)).drew) (i := 5) (fuel := 15) (by simp; rfl) (by kernel_rfl) (by rfl) ?_ ?_
      · go_simp
        all_goals with_reducible rfl
      refine (cmp_gv n1 a1 b1 s z n2 a2 b2 t (zAt z s t) t 0 _ HD1.out HD2.out HG.out HG2.out s0 t0 s9 t9 (by omega) HC.out).mono ?_
      rintro e wx ⟨_, rfl, rfl, hb⟩
      have HSwx := Lib.hid (HB.below HS0.out hb)
      clear hb
      refine ⟨_, rfl, HSwx.out, ?_⟩
      simp only [Act.put, List.setIfInBounds_toArray, List.set_cons_zero, List.set_cons_succ]
      refine ord_take (v := ?_) (i := 6) (fuel := 14) (by simp; rfl) (by kernel_rfl) (by kernel_rfl) (by kernel_rfl) (Or.inl ⟨by rfl, fun w' hSw => ?_⟩) HSwx.out ?_
      rotate_left
      · go_simp
        all_goals with_reducible rfl
      simp only [Act.put, List.setIfInBounds_toArray, List.set_cons_zero, List.set_cons_succ]
      refine ord_take (v := ?_) (i := 7) (fuel := 13) (by simp; rfl) (by kernel_rfl) (by kernel_rfl) (by kernel_rfl) (Or.inl ⟨by rfl, fun w' hSw => ?_⟩) HSwx.out ?_
      rotate_left
      · go_simp
        all_goals with_reducible rfl
      simp only [Act.put, List.setIfInBounds_toArray, List.set_cons_zero, List.set_cons_succ]
      refine ord_take (v := ?_) (i := 8) (fuel := 12) (by simp; rfl) (by kernel_rfl) (by kernel_rfl) (by kernel_rfl) (Or.inl ⟨by rfl, fun w' hSw => ?_⟩) HSwx.out ?_
      rotate_left
      · go_simp
        all_goals with_reducible rfl
      simp only [Act.put, List.setIfInBounds_toArray, List.set_cons_zero, List.set_cons_succ]
      refine ord_take (v := ?_) (i := 9) (fuel := 11) (by simp; rfl) (by kernel_rfl) (by kernel_rfl) (by kernel_rfl) (Or.inl ⟨by rfl, fun w' hSw => ?_⟩) HSwx.out ?_
      rotate_left
      · go_simp
        all_goals with_reducible rfl
      simp only [Act.put, List.setIfInBounds_toArray, List.set_cons_zero, List.set_cons_succ]
      refine ord_take (v := ?_) (i := 10) (fuel := 10) (by simp; rfl) (by kernel_rfl) (by kernel_rfl) (by kernel_rfl) (Or.inl ⟨by rfl, fun w' hSw => ?_⟩) HSwx.out ?_
      rotate_left
      · dsimp only at hSw
        obtain ⟨_, x0, x1, x2, x3⟩ := HB.dec (t := 26) (g := w2.heap.size) (a := .bool n2) (b := .int .u64 a2) (c := .int .u64 b2) (d := .int .i64 t) hSw (by simp)
        go_simp
        all_goals with_reducible rfl
      simp only [Act.put, List.setIfInBounds_toArray, List.set_cons_zero, List.set_cons_succ]
      refine ord_take (v := ?_) (i := 11) (fuel := 9) (by simp; rfl) (by kernel_rfl) (by kernel_rfl) (by kernel_rfl) (Or.inl ⟨by rfl, fun w' hSw => ?_⟩) HSwx.out ?_
      rotate_left
      · go_simp
        all_goals with_reducible rfl
      simp only [Act.put, List.setIfInBounds_toArray, List.set_cons_zero, List.set_cons_succ]
      refine ord_take (v := ?_) (i := 12) (fuel := 8) (by simp; rfl) (by kernel_rfl) (by kernel_rfl) (by kernel_rfl) (Or.inl ⟨by rfl, fun w' hSw => ?_⟩) HSwx.out ?_
      rotate_left
      · go_simp
        all_goals with_reducible rfl
      simp only [Act.put, List.setIfInBounds_toArray, List.set_cons_zero, List.set_cons_succ]
      refine ord_take (v := ?_) (i := 13) (fuel := 7) (by simp; rfl) (by kernel_rfl) (by kernel_rfl) (by kernel_rfl) (Or.inl ⟨by rfl, fun w' hSw => ?_⟩) HSwx.out ?_
      rotate_left
      · go_simp
        all_goals with_reducible rfl
      simp only [Act.put, List.setIfInBounds_toArray, List.set_cons_zero, List.set_cons_succ]
      refine ord_take (v := ?_) (i := 14) (fuel := 6) (by simp; rfl) (by kernel_rfl) (by kernel_rfl) (by kernel_rfl) (Or.inl ⟨by rfl, fun w' hSw => ?_⟩) HSwx.out ?_
      rotate_left
      · go_simp
        all_goals with_reducible rfl
      simp only [Act.put, List.setIfInBounds_toArray, List.set_cons_zero, List.set_cons_succ]
      refine ord_take (v := ?_) (i := 15) (fuel := 5) (by simp; rfl) (by kernel_rfl) (by kernel_rfl) (by kernel_rfl) (Or.inl ⟨by rfl, fun w' hSw => ?_⟩) HSwx.out ?_
      rotate_left
      · dsimp only at hSw
        obtain ⟨_, x0, x1, x2, x3⟩ := HB.dec (t := 26) (g := w1.heap.size) (a := .bool n1) (b := .int .u64 a1) (c := .int .u64 b1) (d := .int .i64 s) hSw (by simp)
        go_simp
        all_goals with_reducible rfl
      simp only [Act.put, List.setIfInBounds_toArray, List.set_cons_zero, List.set_cons_succ]
      refine ord_take (v := ?_) (i := 17) (fuel := 4) (by simp; rfl) (by kernel_rfl) (by kernel_rfl) (by kernel_rfl) (Or.inl ⟨by rfl, fun w' hSw => ?_⟩) HSwx.out ?_
      rotate_left
      · dsimp only at hSw
        obtain ⟨_, x0, x1, x2, x3⟩ := HB.dec (t := 26) (g := w2.heap.size) (a := .bool n2) (b := .int .u64 a2) (c := .int .u64 b2) (d := .int .i64 t) hSw (by simp)
        go_simp
        all_goals with_reducible rfl
      simp only [Act.put, List.setIfInBounds_toArray, List.set_cons_zero, List.set_cons_succ]
      refine ord_call (f := 9) (args := #[.agg #[.bool n1, .int .u64 a1, .int .u64 b1, .int .i64 s]]) (w1 := wx) (i := 16) (fuel := 3) (by simp; rfl) (by kernel_rfl) (by rfl) ?_ ?_
      · go_simp
        all_goals with_reducible rfl
      refine (sign_gv n1 a1 b1 s z σ _ HD1.out HZ30.out s0 s9 HSg.out).mono ?_
      rintro e wy ⟨_, rfl, rfl, hb⟩
      have HSwy := Lib.hid (HB.below HSwx.out hb)
      clear hb
      refine ⟨_, rfl, HSwy.out, ?_⟩
      simp only [Act.put, List.setIfInBounds_toArray, List.set_cons_zero, List.set_cons_succ]
      refine ord_call (f := 9) (args := #[.agg #[.bool n2, .int .u64 a2, .int .u64 b2, .int .i64 t]]) (w1 := wy) (i := 18) (fuel := 2) (by simp; rfl) (by kernel_rfl) (by rfl) ?_ ?_
      · go_simp
        all_goals with_reducible rfl
      refine (sign_gv n2 a2 b2 t (zAt z s t) σ _ HD2.out HZ31.out t0 t9 HSg2.out).mono ?_
      rintro e wz ⟨_, rfl, rfl, hb⟩
      have HSwz := Lib.hid (HB.below HSwy.out hb)
      clear hb
      refine ⟨_, rfl, HSwz.out, ?_⟩
      simp only [Act.put, List.setIfInBounds_toArray, List.set_cons_zero, List.set_cons_succ]
      refine ord_take (v := ?_) (i := 19) (fuel := 1) (by simp; rfl) (by kernel_rfl) (by kernel_rfl) (by kernel_rfl) (Or.inl ⟨by rfl, fun w' hSw => ?_⟩) HSwz.out ?_
      rotate_left
      · go_simp
        all_goals with_reducible rfl
      simp only [Act.put, List.setIfInBounds_toArray, List.set_cons_zero, List.set_cons_succ]
      refine ord_take (v := ?_) (i := 20) (fuel := 0) (by simp; rfl) (by kernel_rfl) (by kernel_rfl) (by kernel_rfl) (Or.inl ⟨by rfl, fun w' hSw => ?_⟩) HSwz.out ?_
      rotate_left
      · go_simp
        all_goals with_reducible rfl
      simp only [Act.put, List.setIfInBounds_toArray, List.set_cons_zero, List.set_cons_succ]
      refine ord_done (by kernel_rfl) ?_ _
      go_wp2_with fail
      go_meet
      case rel => exact ⟨rfl, HSwz.out⟩
    case rest =>
      as_aux_lemma =>
      clear V
      obtain ⟨rfl, V⟩ := hcut
      obtain ⟨l0, x0, x1, x2, x3⟩ := HB.dec (t := 26) (g := w1.heap.size) (a := .bool n1) (b := .int .u64 a1) (c := .int .u64 b1) (d := .int .i64 s) V (by simp)
      go_wp2_with fail
      refine (print_c n1 a1 b1 s _ HD1.out.2.1 HD1.out.2.2.1 (right_dg HD1.out HZ30.out s0 s9) z.natAbs HD1.out.2.2.2 (tabIs_below HT.out V.1)).mono ?_
      rintro e w4 ⟨_, rfl, rfl, hb⟩
      replace V := V.below hb
      clear hb l0 x0 x1 x2 x3
      obtain ⟨Q, hQ⟩ : ∃ Q, printL n1 z.natAbs s = Q := ⟨_, rfl⟩
      have hQl : Q.length ≤ 300 := by rw [← hQ]; exact print_len _ _ _ HZ30.out s0 s9
      rw [hQ]
      rw [hQ] at HPR0
      clear hQ
      have hsq : ¬ 9223372036854775807 < Q.length + 1 := by omega
      by_cases hs : s = 0
      · subst hs
        by_cases ht0 : 0 < t
        · obtain ⟨P, hP⟩ : ∃ P, Q ++ [46] = P := ⟨_, rfl⟩
          have HPL := Lib.hid (show P.length ≤ 400 by rw [← hP, List.length_append]; simp; omega)
          have HPR := Lib.hid (show printL n2 N2 t = P ++ Lib.repeatL [48] (t - 0).toNat by rw [HPR0.out, dotS, if_pos ⟨rfl, ht0⟩, hP])
          have hbA : (⟨Q.toArray⟩ ++ ⟨#[46]⟩ : ByteArray) = ⟨P.toArray⟩ := by rw [← hP]; exact bytes_app Q [46]
          clear hP
          go_wp2
          go_loop [10, 11] (fun x i => ∃ j : Nat, 0 + (j : Int) ≤ t ∧ i = .int .i64 (0 + j) ∧ x = .string ⟨(P ++ Lib.repeatL [48] j).toArray⟩) (fun _ i => (t - intOf i).toNat)
          case atStart => exact ⟨0, by simpa using hst, by simp, by simp [Lib.repeatL]⟩
          case round =>
            obtain ⟨j, hj, rfl, rfl⟩ := hrel
            obtain ⟨L, hL⟩ : ∃ L, P ++ Lib.repeatL [48] j = L := ⟨_, rfl⟩
            have hLl : L.length ≤ 1000 := by rw [← hL, List.length_append, zeros_len]; have := HPL.out; omega
            have hsum : ¬ 9223372036854775807 < L.length + 1 := by omega
            rw [hL]
            have HL := Lib.hid hL
            clear hL
            by_cases hlt : 0 + (j : Int) < t
            · go_wp2
              go_round
              case rel => exact ⟨j + 1, by omega, by first | go_num | (congr 1; omega), by rw [zeros_snoc, ← List.append_assoc, HL.out]; exact congrArg Value.string (bytes_app L [48])⟩
              case measure => simp [intOf]; omega
            · have hjk : j = (t - 0).toNat := by omega
              have HEQ := Lib.hid (show printL n2 N2 t = L by rw [HPR.out, ← HL.out, hjk])
              clear hjk
              go_wp2_with fail
              refine (known_c mx _ (cell_keep V.1 HMX.out) (tabIs_below HT.out V.1)).mono ?_
              rintro e w5 ⟨_, rfl, rfl, hb⟩
              replace V := V.below hb
              clear hb
              obtain ⟨l1, y0, y1, y2, y3⟩ := HB.dec (t := 26) (g := w2.heap.size) (a := .bool n2) (b := .int .u64 a2) (c := .int .u64 b2) (d := .int .i64 t) V (by simp)
              go_wp2_with fail
              refine (print_c n2 a2 b2 t _ HD2.out.2.1 HD2.out.2.2.1 (right_dg HD2.out HZ31.out t0 t9) N2 HN2.out (tabIs_below HT.out V.1)).mono ?_
              rintro e w6 ⟨_, rfl, rfl, hb⟩
              rw [HEQ.out]
              replace V := V.below hb
              have HB1 := Lib.hid V.1
              clear hb V l1 y0 y1 y2 y3
              go_wp2
              go_ret
              exact ⟨_, rfl, rfl, HB1.out⟩
        · obtain ⟨P, hP⟩ : ∃ P, Q = P := ⟨_, rfl⟩
          subst hP
          have HPL := Lib.hid (show Q.length ≤ 400 by omega)
          have HPR := Lib.hid (show printL n2 N2 t = Q ++ Lib.repeatL [48] (t - 0).toNat by rw [HPR0.out, dotS, if_neg (fun h => ht0 h.2), List.append_nil])
          go_wp2
          go_loop [10, 11] (fun x i => ∃ j : Nat, 0 + (j : Int) ≤ t ∧ i = .int .i64 (0 + j) ∧ x = .string ⟨(Q ++ Lib.repeatL [48] j).toArray⟩) (fun _ i => (t - intOf i).toNat)
          case atStart => exact ⟨0, by simpa using hst, by simp, by simp [Lib.repeatL]⟩
          case round =>
            obtain ⟨j, hj, rfl, rfl⟩ := hrel
            obtain ⟨L, hL⟩ : ∃ L, Q ++ Lib.repeatL [48] j = L := ⟨_, rfl⟩
            have hLl : L.length ≤ 1000 := by rw [← hL, List.length_append, zeros_len]; have := HPL.out; omega
            have hsum : ¬ 9223372036854775807 < L.length + 1 := by omega
            rw [hL]
            have HL := Lib.hid hL
            clear hL
            by_cases hlt : 0 + (j : Int) < t
            · exfalso; omega
            · have hjk : j = (t - 0).toNat := by omega
              have HEQ := Lib.hid (show printL n2 N2 t = L by rw [HPR.out, ← HL.out, hjk])
              clear hjk
              go_wp2_with fail
              refine (known_c mx _ (cell_keep V.1 HMX.out) (tabIs_below HT.out V.1)).mono ?_
              rintro e w5 ⟨_, rfl, rfl, hb⟩
              replace V := V.below hb
              clear hb
              obtain ⟨l1, y0, y1, y2, y3⟩ := HB.dec (t := 26) (g := w2.heap.size) (a := .bool n2) (b := .int .u64 a2) (c := .int .u64 b2) (d := .int .i64 t) V (by simp)
              go_wp2_with fail
              refine (print_c n2 a2 b2 t _ HD2.out.2.1 HD2.out.2.2.1 (right_dg HD2.out HZ31.out t0 t9) N2 HN2.out (tabIs_below HT.out V.1)).mono ?_
              rintro e w6 ⟨_, rfl, rfl, hb⟩
              rw [HEQ.out]
              replace V := V.below hb
              have HB1 := Lib.hid V.1
              clear hb V l1 y0 y1 y2 y3
              go_wp2
              go_ret
              exact ⟨_, rfl, rfl, HB1.out⟩
      · have hs1 : (s == 0) = false := by simp; exact hs
        have HPL := Lib.hid (show Q.length ≤ 400 by omega)
        have HPR := Lib.hid (show printL n2 N2 t = Q ++ Lib.repeatL [48] (t - s).toNat by rw [HPR0.out, dotS, if_neg (fun h => hs h.1), List.append_nil])
        go_wp2
        go_loop [10, 11] (fun x i => ∃ j : Nat, s + (j : Int) ≤ t ∧ i = .int .i64 (s + j) ∧ x = .string ⟨(Q ++ Lib.repeatL [48] j).toArray⟩) (fun _ i => (t - intOf i).toNat)
        case atStart => exact ⟨0, by simpa using hst, by simp, by simp [Lib.repeatL]⟩
        case round =>
          obtain ⟨j, hj, rfl, rfl⟩ := hrel
          obtain ⟨L, hL⟩ : ∃ L, Q ++ Lib.repeatL [48] j = L := ⟨_, rfl⟩
          have hLl : L.length ≤ 1000 := by rw [← hL, List.length_append, zeros_len]; have := HPL.out; omega
          have hsum : ¬ 9223372036854775807 < L.length + 1 := by omega
          rw [hL]
          have HL := Lib.hid hL
          clear hL
          by_cases hlt : s + (j : Int) < t
          · go_wp2
            go_round
            case rel => exact ⟨j + 1, by omega, by first | go_num | (congr 1; omega), by rw [zeros_snoc, ← List.append_assoc, HL.out]; exact congrArg Value.string (bytes_app L [48])⟩
            case measure => simp [intOf]; omega
          · have hjk : j = (t - s).toNat := by omega
            have HEQ := Lib.hid (show printL n2 N2 t = L by rw [HPR.out, ← HL.out, hjk])
            clear hjk
            go_wp2_with fail
            refine (known_c mx _ (cell_keep V.1 HMX.out) (tabIs_below HT.out V.1)).mono ?_
            rintro e w5 ⟨_, rfl, rfl, hb⟩
            replace V := V.below hb
            clear hb
            obtain ⟨l1, y0, y1, y2, y3⟩ := HB.dec (t := 26) (g := w2.heap.size) (a := .bool n2) (b := .int .u64 a2) (c := .int .u64 b2) (d := .int .i64 t) V (by simp)
            go_wp2_with fail
            refine (print_c n2 a2 b2 t _ HD2.out.2.1 HD2.out.2.2.1 (right_dg HD2.out HZ31.out t0 t9) N2 HN2.out (tabIs_below HT.out V.1)).mono ?_
            rintro e w6 ⟨_, rfl, rfl, hb⟩
            rw [HEQ.out]
            replace V := V.below hb
            have HB1 := Lib.hid V.1
            clear hb V l1 y0 y1 y2 y3
            go_wp2
            go_ret
            exact ⟨_, rfl, rfl, HB1.out⟩
end Go.Proofs.YtipjeepcgdmomaaDoor


/- pyxlaw3: known. -/
import Derived.Test.YtkaflkofffgndaaDoorQuantF
import Derived.Test.YtkaflkofffgndaaDoorRefP
import Derived.Test.YtkaflkofffgndaaDoorHand
import Derived.Test.YtkaflkofffgndaaDoorDet
namespace Go.Proofs.YtkaflkofffgndaaDoor
open Go.RowKit
theorem quant_v (n : Bool) (a b s z t mode : Int) (n2 : Bool) (a2 b2 y : Int) (w : World) (h : DecIs n a b z) (h2 : DecIs n2 a2 b2 y) (hz : z.natAbs < 1000000000000000000000000000000) (h0 : 0 ≤ s) (h9 : s ≤ 9) (ht0 : 0 ≤ t) (ht9 : t ≤ 9) (hm : mode = 0 ∨ mode = 1 ∨ mode = 2 ∨ mode = 3 ∨ mode = 4)
    (N : Nat) (hN : divN n z s 1 0 t mode = N) (hb30 : N < 1000000000000000000000000000000) (hy : zOf n N = y) :
    Calls Tryd.prog 4 #[.agg #[.bool n, .int .u64 a, .int .u64 b, .int .i64 s], .int .i64 t, .int .i64 mode] w (Ret w (· = .tuple #[.agg #[.bool n2, .int .u64 a2, .int .u64 b2, .int .i64 t], .int .i64 0])) :=
  (quant_q n a b s z t mode w h hz h0 h9 ht0 ht9 hm N hN hb30).mono fun e w' ⟨v, ⟨m, c, d, hd, ev⟩, he, hb⟩ => by
    rw [hy] at hd
    obtain ⟨rfl, rfl, rfl⟩ := decIs_one hd h2
    exact ⟨v, ev, he, hb⟩
theorem d25 : DecIs false 25 0 25 := dec_pos (by decide) (by decide)
theorem d25n : DecIs true 25 0 (-25) := dec_neg (z := -25) (by decide) (by decide)
theorem d2p : DecIs false 2 0 2 := dec_pos (by decide) (by decide)
theorem d3n : DecIs true 3 0 (-3) := dec_neg (z := -3) (by decide) (by decide)
theorem qn1 : divN false 25 1 1 0 0 4 = 2 := by decide
theorem qn2 : divN true (-25) 1 1 0 0 2 = 3 := by decide
set_option maxRecDepth 100000 in
set_option maxHeartbeats 3200000 in
theorem qk_c (w : World) : Calls Tryd.prog 10 #[] w (Ret w (IsBool true)) := by
  go_enter Tryd.func10, Tryd.ntmps10
  have V := HB.start (Below.refl w.heap.size w)
  go_wp2_with fail
  refine (dOf_v 25 1 false 25 0 _ (by decide) (by decide) (by decide) (by decide) d25).mono ?_
  rintro e w0 ⟨_, rfl, rfl, hb⟩
  replace V := V.below hb
  clear hb
  go_wp2_with fail
  refine (quant_v false 25 0 1 25 0 4 false 2 0 2 _ d25 d2p (by decide) (by decide) (by decide) (by decide) (by decide) (by decide) 2 qn1 (by decide) rfl).mono ?_
  rintro e w1 ⟨_, rfl, rfl, hb⟩
  replace V := (V.below hb).push #[.bool false, .int .u64 2, .int .u64 0, .int .i64 0] 27
  clear hb
  go_wp2_with fail
  refine (dOf_v (-25) 1 true 25 0 _ (by decide) (by decide) (by decide) (by decide) d25n).mono ?_
  rintro e w2 ⟨_, rfl, rfl, hb⟩
  replace V := V.below hb
  clear hb
  go_wp2_with fail
  refine (quant_v true 25 0 1 (-25) 0 2 true 3 0 (-3) _ d25n d3n (by decide) (by decide) (by decide) (by decide) (by decide) (by decide) 3 qn2 (by decide) rfl).mono ?_
  rintro e w3 ⟨_, rfl, rfl, hb⟩
  replace V := (V.below hb).push #[.bool true, .int .u64 3, .int .u64 0, .int .i64 0] 27
  clear hb
  have q2 := eqW2_yes (a := 2) (b := 0) (c := 2) (d := 0) ⟨rfl, rfl⟩
  have q3 := eqW2_yes (a := 3) (b := 0) (c := 3) (d := 0) ⟨rfl, rfl⟩
  go_upto_region 3 with fail
  refine wp_region_det (S := fun w' => HB w [(w3.heap.size, 27, #[.bool true, .int .u64 3, .int .u64 0, .int .i64 0]), (w1.heap.size, 27, #[.bool false, .int .u64 2, .int .u64 0, .int .i64 0])] w') (by kernel_rfl) (HB.drew V) ?_
  refine det_take (v := ?_) (i := 0) (fuel := 21) (by simp; rfl) (by kernel_rfl) (by kernel_rfl) (by kernel_rfl) (Or.inl ⟨by rfl, fun w' hS => Or.inl ⟨w', ?_, hS⟩⟩) ?_
  rotate_left
  · go_simp
    all_goals with_reducible rfl
  simp only [Act.put, List.setIfInBounds_toArray, List.set_cons_zero, List.set_cons_succ]
  refine det_take (v := ?_) (i := 1) (fuel := 20) (by simp; rfl) (by kernel_rfl) (by kernel_rfl) (by kernel_rfl) (Or.inl ⟨by rfl, fun w' hS => Or.inl ⟨w', ?_, hS⟩⟩) ?_
  rotate_left
  · go_simp
    all_goals with_reducible rfl
  simp only [Act.put, List.setIfInBounds_toArray, List.set_cons_zero, List.set_cons_succ]
  refine det_take (v := ?_) (i := 2) (fuel := 19) (by simp; rfl) (by kernel_rfl) (by kernel_rfl) (by kernel_rfl) (Or.inl ⟨by rfl, fun w' hS => Or.inl ⟨w', ?_, hS⟩⟩) ?_
  rotate_left
  · go_simp
    all_goals with_reducible rfl
  simp only [Act.put, List.setIfInBounds_toArray, List.set_cons_zero, List.set_cons_succ]
  refine det_take (v := ?_) (i := 3) (fuel := 18) (by simp; rfl) (by kernel_rfl) (by kernel_rfl) (by kernel_rfl) (Or.inl ⟨by rfl, fun w' hS => Or.inl ⟨w', ?_, hS⟩⟩) ?_
  rotate_left
  · go_simp
    all_goals with_reducible rfl
  simp only [Act.put, List.setIfInBounds_toArray, List.set_cons_zero, List.set_cons_succ]
  refine det_take (v := ?_) (i := 4) (fuel := 17) (by simp; rfl) (by kernel_rfl) (by kernel_rfl) (by kernel_rfl) (Or.inl ⟨by rfl, fun w' hS => Or.inl ⟨w', ?_, hS⟩⟩) ?_
  rotate_left
  · go_simp
    all_goals with_reducible rfl
  simp only [Act.put, List.setIfInBounds_toArray, List.set_cons_zero, List.set_cons_succ]
  refine det_take (v := ?_) (i := 5) (fuel := 16) (by simp; rfl) (by kernel_rfl) (by kernel_rfl) (by kernel_rfl) (Or.inl ⟨by rfl, fun w' hS => Or.inl ⟨w', ?_, hS⟩⟩) ?_
  rotate_left
  · go_simp
    all_goals with_reducible rfl
  simp only [Act.put, List.setIfInBounds_toArray, List.set_cons_zero, List.set_cons_succ]
  refine det_take (v := ?_) (i := 6) (fuel := 15) (by simp; rfl) (by kernel_rfl) (by kernel_rfl) (by kernel_rfl) (Or.inl ⟨by rfl, fun w' hS => Or.inl ⟨w', ?_, hS⟩⟩) ?_
  rotate_left
  · go_simp
    all_goals with_reducible rfl
  simp only [Act.put, List.setIfInBounds_toArray, List.set_cons_zero, List.set_cons_succ]
  refine det_take (v := ?_) (i := 7) (fuel := 14) (by simp; rfl) (by kernel_rfl) (by kernel_rfl) (by kernel_rfl) (Or.inl ⟨by rfl, fun w' hS => Or.inl ⟨w', ?_, hS⟩⟩) ?_
  rotate_left
  · obtain ⟨-, c0, c1, c2, c3⟩ := HB.dec (t := 27) (g := w1.heap.size) (a := .bool false) (b := .int .u64 2) (c := .int .u64 0) (d := .int .i64 0) hS (by simp)
    go_simp
    all_goals with_reducible rfl
  simp only [Act.put, List.setIfInBounds_toArray, List.set_cons_zero, List.set_cons_succ]
  refine det_take (v := ?_) (i := 8) (fuel := 13) (by simp; rfl) (by kernel_rfl) (by kernel_rfl) (by kernel_rfl) (Or.inl ⟨by rfl, fun w' hS => Or.inr ⟨5, #[.int .i64 2, .int .i64 0], w', ?_, ?_⟩⟩) ?_
  rotate_left
  · go_simp
    all_goals with_reducible rfl
  · exact (dOf_v 2 0 false 2 0 _ (by decide) (by decide) (by decide) (by decide) d2p).mono fun e w2 ⟨_, hv, he, hb⟩ => ⟨by rw [he, hv], HB.below hS hb⟩
  simp only [Act.put, List.setIfInBounds_toArray, List.set_cons_zero, List.set_cons_succ]
  refine det_take (v := ?_) (i := 9) (fuel := 12) (by simp; rfl) (by kernel_rfl) (by kernel_rfl) (by kernel_rfl) (Or.inl ⟨by rfl, fun w' hS => Or.inl ⟨w', ?_, hS⟩⟩) ?_
  rotate_left
  · go_simp
    all_goals with_reducible rfl
  simp only [Act.put, List.setIfInBounds_toArray, List.set_cons_zero, List.set_cons_succ]
  refine det_take (v := ?_) (i := 10) (fuel := 11) (by simp; rfl) (by kernel_rfl) (by kernel_rfl) (by kernel_rfl) (Or.inl ⟨by rfl, fun w' hS => Or.inl ⟨w', ?_, hS⟩⟩) ?_
  rotate_left
  · go_simp
    all_goals with_reducible rfl
  simp only [Act.put, List.setIfInBounds_toArray, List.set_cons_zero, List.set_cons_succ]
  refine det_take (v := ?_) (i := 11) (fuel := 10) (by simp; rfl) (by kernel_rfl) (by kernel_rfl) (by kernel_rfl) (Or.inl ⟨by rfl, fun w' hS => Or.inl ⟨w', ?_, hS⟩⟩) ?_
  rotate_left
  · go_simp
    all_goals with_reducible rfl
  simp only [Act.put, List.setIfInBounds_toArray, List.set_cons_zero, List.set_cons_succ]
  refine det_take (v := ?_) (i := 12) (fuel := 9) (by simp; rfl) (by kernel_rfl) (by kernel_rfl) (by kernel_rfl) (Or.inl ⟨by rfl, fun w' hS => Or.inl ⟨w', ?_, hS⟩⟩) ?_
  rotate_left
  · obtain ⟨-, c0, c1, c2, c3⟩ := HB.dec (t := 27) (g := w3.heap.size) (a := .bool true) (b := .int .u64 3) (c := .int .u64 0) (d := .int .i64 0) hS (by simp)
    go_simp
    all_goals with_reducible rfl
  simp only [Act.put, List.setIfInBounds_toArray, List.set_cons_zero, List.set_cons_succ]
  refine det_take (v := ?_) (i := 13) (fuel := 8) (by simp; rfl) (by kernel_rfl) (by kernel_rfl) (by kernel_rfl) (Or.inl ⟨by rfl, fun w' hS => Or.inr ⟨5, #[.int .i64 (-3), .int .i64 0], w', ?_, ?_⟩⟩) ?_
  rotate_left
  · go_simp
    all_goals with_reducible rfl
  · exact (dOf_v (-3) 0 true 3 0 _ (by decide) (by decide) (by decide) (by decide) d3n).mono fun e w2 ⟨_, hv, he, hb⟩ => ⟨by rw [he, hv], HB.below hS hb⟩
  simp only [Act.put, List.setIfInBounds_toArray, List.set_cons_zero, List.set_cons_succ]
  refine det_take (v := ?_) (i := 14) (fuel := 7) (by simp; rfl) (by kernel_rfl) (by kernel_rfl) (by kernel_rfl) (Or.inl ⟨by rfl, fun w' hS => Or.inl ⟨w', ?_, hS⟩⟩) ?_
  rotate_left
  · go_simp
    all_goals with_reducible rfl
  simp only [Act.put, List.setIfInBounds_toArray, List.set_cons_zero, List.set_cons_succ]
  refine det_take (v := ?_) (i := 15) (fuel := 6) (by simp; rfl) (by kernel_rfl) (by kernel_rfl) (by kernel_rfl) (Or.inl ⟨by rfl, fun w' hS => Or.inl ⟨w', ?_, hS⟩⟩) ?_
  rotate_left
  · go_simp
    all_goals with_reducible rfl
  simp only [Act.put, List.setIfInBounds_toArray, List.set_cons_zero, List.set_cons_succ]
  refine det_take (v := ?_) (i := 16) (fuel := 5) (by simp; rfl) (by kernel_rfl) (by kernel_rfl) (by kernel_rfl) (Or.inl ⟨by rfl, fun w' hS => Or.inl ⟨w', ?_, hS⟩⟩) ?_
  rotate_left
  · go_simp
    all_goals with_reducible rfl
  simp only [Act.put, List.setIfInBounds_toArray, List.set_cons_zero, List.set_cons_succ]
  refine det_take (v := ?_) (i := 17) (fuel := 4) (by simp; rfl) (by kernel_rfl) (by kernel_rfl) (by kernel_rfl) (Or.inl ⟨by rfl, fun w' hS => Or.inl ⟨w', ?_, hS⟩⟩) ?_
  rotate_left
  · obtain ⟨-, c0, c1, c2, c3⟩ := HB.dec (t := 27) (g := w3.heap.size) (a := .bool true) (b := .int .u64 3) (c := .int .u64 0) (d := .int .i64 0) hS (by simp)
    go_simp
    all_goals with_reducible rfl
  simp only [Act.put, List.setIfInBounds_toArray, List.set_cons_zero, List.set_cons_succ]
  refine det_take (v := ?_) (i := 18) (fuel := 3) (by simp; rfl) (by kernel_rfl) (by kernel_rfl) (by kernel_rfl) (Or.inl ⟨by rfl, fun w' hS => Or.inr ⟨21, #[.agg #[.bool true, .int .u64 3, .int .u64 0, .int .i64 0]], w', ?_, ?_⟩⟩) ?_
  rotate_left
  · go_simp
    all_goals with_reducible rfl
  · exact (sign_v true 3 0 0 (-3) (-1) _ d3n (by decide) (by decide) (by decide) (by decide)).mono fun e w2 ⟨_, hv, he, hb⟩ => ⟨by rw [he, hv], HB.below hS hb⟩
  simp only [Act.put, List.setIfInBounds_toArray, List.set_cons_zero, List.set_cons_succ]
  refine det_take (v := ?_) (i := 19) (fuel := 2) (by simp; rfl) (by kernel_rfl) (by kernel_rfl) (by kernel_rfl) (Or.inl ⟨by rfl, fun w' hS => Or.inl ⟨w', ?_, hS⟩⟩) ?_
  rotate_left
  · go_simp
    all_goals with_reducible rfl
  simp only [Act.put, List.setIfInBounds_toArray, List.set_cons_zero, List.set_cons_succ]
  refine det_take (v := ?_) (i := 20) (fuel := 1) (by simp; rfl) (by kernel_rfl) (by kernel_rfl) (by kernel_rfl) (Or.inl ⟨by rfl, fun w' hS => Or.inl ⟨w', ?_, hS⟩⟩) ?_
  rotate_left
  · go_simp
    all_goals with_reducible rfl
  simp only [Act.put, List.setIfInBounds_toArray, List.set_cons_zero, List.set_cons_succ]
  refine det_take (v := ?_) (i := 21) (fuel := 0) (by simp; rfl) (by kernel_rfl) (by kernel_rfl) (by kernel_rfl) (Or.inl ⟨by rfl, fun w' hS => Or.inl ⟨w', ?_, hS⟩⟩) ?_
  rotate_left
  · go_simp
    all_goals with_reducible rfl
  simp only [Act.put, List.setIfInBounds_toArray, List.set_cons_zero]
  refine det_done (by kernel_rfl) (fun w' hS => ?_) _
  go_wp2
  go_ret
  exact ⟨_, rfl, rfl, HB.bel hS⟩
/-! What is rounded. -/
theorem rd_cases (n : Bool) (A P : Nat) (m : Int) : (roundN n A P m = A / P ∧ (A % P = 0 ∨ farB n (decide (A / P % 2 = 1)) (cmpI (A % P) (P - A % P)) m = false)) ∨ (roundN n A P m = A / P + 1 ∧ A % P ≠ 0 ∧ farB n (decide (A / P % 2 = 1)) (cmpI (A % P) (P - A % P)) m = true) := by
  unfold roundN
  by_cases h : A % P ≠ 0 ∧ farB n (decide (A / P % 2 = 1)) (cmpI (A % P) (P - A % P)) m = true
  · right
    rw [if_pos h]
    exact ⟨rfl, h.1, h.2⟩
  · left
    rw [if_neg h]
    refine ⟨rfl, ?_⟩
    by_cases h0 : A % P = 0
    · exact Or.inl h0
    · right
      cases hf : farB n (decide (A / P % 2 = 1)) (cmpI (A % P) (P - A % P)) m
      · rfl
      · exact absurd ⟨h0, hf⟩ h
/-- A whole number of parts, and what is left. -/
theorem rd_near (n : Bool) (A P : Nat) (m : Int) (hP : 0 < P) :
    ∃ R : Nat, R < P ∧ R ≤ A ∧ ((roundN n A P m * P + R = A ∧ (R = 0 ∨ (m ≠ 1 ∧ (m = 2 → n = false) ∧ (m = 3 → 2 * R < P) ∧ (m = 4 → 2 * R ≤ P)))) ∨ (roundN n A P m * P + R = A + P ∧ R ≠ 0 ∧ (m = 1 ∨ m = 2 ∨ m = 3 ∨ m = 4) ∧ (m = 2 → n = true) ∧ (m = 3 → P ≤ 2 * R) ∧ (m = 4 → P ≤ 2 * R))) := by
  have hR : A % P < P := Nat.mod_lt _ hP
  have hA : A / P * P + A % P = A := by rw [Nat.mul_comm]; exact Nat.div_add_mod A P
  refine ⟨A % P, hR, Nat.mod_le A P, ?_⟩
  rcases rd_cases n A P m with ⟨e, h⟩ | ⟨e, h0, h⟩
  · left
    rw [e]
    refine ⟨hA, ?_⟩
    rcases h with h | h
    · exact Or.inl h
    · right
      unfold farB at h
      generalize A % P = R at *
      generalize decide (A / P % 2 = 1) = o at *
      refine ⟨fun e => ?_, fun e => ?_, fun e => ?_, fun e => ?_⟩
      · subst e; simp at h
      · subst e; simpa using h
      · subst e
        simp at h
        rcases cmpI_cases R (P - R) with ⟨a, b⟩ | ⟨a, b⟩ | ⟨a, b⟩ <;> omega
      · subst e
        simp at h
        rcases cmpI_cases R (P - R) with ⟨a, b⟩ | ⟨a, b⟩ | ⟨a, b⟩ <;> omega
  · right
    rw [e]
    refine ⟨by rw [Nat.add_mul, Nat.one_mul]; omega, h0, ?_⟩
    unfold farB at h
    generalize A % P = R at *
    generalize decide (A / P % 2 = 1) = o at *
    by_cases h1 : m = 1
    · subst h1; simp
    · by_cases h2 : m = 2
      · subst h2; simp at h; simp [h]
      · by_cases h3 : m = 3
        · subst h3
          simp at h
          have : P ≤ 2 * R := by rcases cmpI_cases R (P - R) with ⟨a, b⟩ | ⟨a, b⟩ | ⟨a, b⟩ <;> omega
          simp [this]
        · by_cases h4 : m = 4
          · subst h4
            simp at h
            have : P ≤ 2 * R := by
              rcases cmpI_cases R (P - R) with ⟨a, b⟩ | ⟨a, b⟩ | ⟨a, b⟩
              · rw [b] at h; simp at h
              · omega
              · omega
            simp [this]
          · simp [h1, h2, h3, h4] at h
theorem zOf_self {n : Bool} {a b z : Int} (h : DecIs n a b z) : zOf n z.natAbs = z := by
  obtain ⟨rfl, _, _, _⟩ := h
  unfold zOf
  by_cases h : z < 0
  · simp [h]; omega
  · simp [h]; omega
end Go.Proofs.YtkaflkofffgndaaDoor

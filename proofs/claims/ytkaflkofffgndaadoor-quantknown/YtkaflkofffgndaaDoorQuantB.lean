/- quant: step, tens. -/
import Derived.Test.YtkaflkofffgndaaDoorQuantA
import Derived.Test.YtkaflkofffgndaaDoorDet
namespace Go.Proofs.YtkaflkofffgndaaDoor
open Go.RowKit
def stepI (n odd : Bool) (R D : Nat) (mode : Int) : Int := if R ≠ 0 ∧ farB n odd (cmpI R (D - R)) mode = true then 1 else 0
theorem and_one (x : Nat) (hx : x < 18446744073709551616) : bits .and .u64 (x : Int) 1 = ((x % 2 : Nat) : Int) := by
  have := bit_walk x 0 hx
  simpa using this
theorem odd_2 {c0 : Int} (h : U64 c0) : (bits .and .u64 c0 1 = 1 ∧ decide (c0 % 2 = 1) = true) ∨ (bits .and .u64 c0 1 = 0 ∧ decide (c0 % 2 = 1) = false) := by
  obtain ⟨h0, h1⟩ := h
  obtain ⟨x, rfl⟩ : ∃ x : Nat, c0 = x := ⟨c0.toNat, by omega⟩
  rw [and_one x (by omega)]
  rcases (show x % 2 = 1 ∨ x % 2 = 0 by omega) with h | h
  · left; rw [h]; exact ⟨rfl, decide_eq_true (by omega)⟩
  · right; rw [h]; exact ⟨rfl, decide_eq_false (by omega)⟩
theorem cmpI_3 (m n : Nat) : cmpI m n = -1 ∨ cmpI m n = 0 ∨ cmpI m n = 1 := by unfold cmpI; split <;> (try split) <;> simp
theorem middle_v (r0 r1 d0 d1 K : Int) (w : World) (hr0 : U64 r0) (hr1 : U64 r1) (hd0 : U64 d0) (hd1 : U64 d1) (hle : v2 r0 r1 ≤ v2 d0 d1) (hK : cmpI (v2 r0 r1) (v2 d0 d1 - v2 r0 r1) = K) :
    Calls Tryd.prog 49 #[.agg #[.int .u64 r0, .int .u64 r1], .agg #[.int .u64 d0, .int .u64 d1]] w (Ret w (· = .int .i64 K)) := by
  subst hK
  exact middle_c r0 r1 d0 d1 w hr0 hr1 hd0 hd1 hle
theorem farther_v (neg odd f : Bool) (side mode : Int) (w : World) (hm : mode = 0 ∨ mode = 1 ∨ mode = 2 ∨ mode = 3 ∨ mode = 4) (hs : side = -1 ∨ side = 0 ∨ side = 1) (hf : farB neg odd side mode = f) :
    Calls Tryd.prog 48 #[.bool neg, .bool odd, .int .i64 side, .int .i64 mode] w (Ret w (· = .bool f)) := by
  subst hf
  exact farther_c neg odd side mode w hm hs
def S4 (w0 : World) (g : Nat) (c0 c1 r0 r1 d0 d1 : Int) (w : World) : Prop := HB w0 [(g + 1 + 1 + 1, 25, #[.int .u64 0, .int .u64 0]), (g + 1 + 1, 25, #[.int .u64 d0, .int .u64 d1]), (g + 1, 25, #[.int .u64 r0, .int .u64 r1]), (g, 25, #[.int .u64 c0, .int .u64 c1])] w
theorem s4_mk {w0 w : World} {g : Nat} {c0 c1 r0 r1 d0 d1 : Int} (h : S4 w0 g c0 c1 r0 r1 d0 d1 w) : S4 w0 g c0 c1 r0 r1 d0 d1 w ∧ (w.cell? ⟨g, 0, none⟩ = some (.int .u64 c0) ∧ w.cell? ⟨g, 1, none⟩ = some (.int .u64 c1)) ∧ (w.cell? ⟨g + 1, 0, none⟩ = some (.int .u64 r0) ∧ w.cell? ⟨g + 1, 1, none⟩ = some (.int .u64 r1)) ∧ (w.cell? ⟨g + 1 + 1, 0, none⟩ = some (.int .u64 d0) ∧ w.cell? ⟨g + 1 + 1, 1, none⟩ = some (.int .u64 d1)) :=
  ⟨h, (HB.two (t := 25) h (by simp)).2, (HB.two (t := 25) h (by simp)).2, (HB.two (t := 25) h (by simp)).2⟩
theorem s4_keep {w0 w w' : World} {g : Nat} {c0 c1 r0 r1 d0 d1 : Int} {P : Prop} (hb : Below w.heap.size w w') (h : S4 w0 g c0 c1 r0 r1 d0 d1 w ∧ P) : S4 w0 g c0 c1 r0 r1 d0 d1 w' := HB.below h.1 hb
set_option maxRecDepth 100000 in
set_option maxHeartbeats 1600000 in
theorem step_c (n : Bool) (c0 c1 r0 r1 d0 d1 mode : Int) (w : World) (hc0 : U64 c0) (hr0 : U64 r0) (hr1 : U64 r1) (hd0 : U64 d0) (hd1 : U64 d1) (hle : v2 r0 r1 ≤ v2 d0 d1) (hm : mode = 0 ∨ mode = 1 ∨ mode = 2 ∨ mode = 3 ∨ mode = 4) :
    Calls Tryd.prog 34 #[.bool n, .agg #[.int .u64 c0, .int .u64 c1], .agg #[.int .u64 r0, .int .u64 r1], .agg #[.int .u64 d0, .int .u64 d1], .int .i64 mode] w (Ret w (· = .agg #[.int .u64 (stepI n (decide (c0 % 2 = 1)) (v2 r0 r1) (v2 d0 d1) mode), .int .u64 0])) := by
  have W : S4 w w.heap.size c0 c1 r0 r1 d0 d1 ((((w.alloc (.cells #[.int .u64 c0, .int .u64 c1] 25)).alloc (.cells #[.int .u64 r0, .int .u64 r1] 25)).alloc (.cells #[.int .u64 d0, .int .u64 d1] 25)).alloc (.cells #[.int .u64 0, .int .u64 0] 25)) := by
    have h := ((((HB.start (Below.refl _ w)).push #[.int .u64 c0, .int .u64 c1] 25).push #[.int .u64 r0, .int .u64 r1] 25).push #[.int .u64 d0, .int .u64 d1] 25).push #[.int .u64 0, .int .u64 0] 25
    simpa [S4] using h
  have hlg : w.heap.size ≤ w.heap.size + 1 + 1 + 1 := by omega
  have HLE := Lib.hid hle
  have HM := Lib.hid hm
  clear hle hm
  obtain ⟨o, ho⟩ : ∃ o, decide (c0 % 2 = 1) = o := ⟨_, rfl⟩
  obtain ⟨f, hf⟩ : ∃ f, farB n o (cmpI (v2 r0 r1) (v2 d0 d1 - v2 r0 r1)) mode = f := ⟨_, rfl⟩
  obtain ⟨β, hβ⟩ : ∃ β, eqW2 r0 r1 0 0 = β := ⟨_, rfl⟩
  obtain ⟨σ, hσ⟩ : ∃ σ, stepI n (decide (c0 % 2 = 1)) (v2 r0 r1) (v2 d0 d1) mode = σ := ⟨_, rfl⟩
  rw [hσ]
  have hS : σ = if β = false ∧ f = true then 1 else 0 := by
    rw [← hσ, ← hβ, ← hf, ← ho, eqW2_0 hr0 hr1]
    unfold stepI
    simp
  have HF := Lib.hid hf
  have H3 := Lib.hid (cmpI_3 (v2 r0 r1) (v2 d0 d1 - v2 r0 r1))
  generalize hK : cmpI (v2 r0 r1) (v2 d0 d1 - v2 r0 r1) = K at *
  have HK := Lib.hid hK
  clear hf hσ hK
  have HO := odd_2 hc0
  rw [ho] at HO
  clear ho
  have HO' : (bits .and .u64 c0 1 = 1 ∧ o = true) ∨ (bits .and .u64 c0 1 = 0 ∧ o = false) := HO
  clear HO
  have HW := Lib.hid W
  clear W
  rcases HO' with ⟨hbit, rfl⟩ | ⟨hbit, rfl⟩ <;> cases β <;> cases f <;> simp at hS <;> subst hS
  · go_enter Tryd.func34, Tryd.ntmps34
    go_upto_region 1 with fail
    refine wp_region_det (S := fun w' => S4 w w.heap.size c0 c1 r0 r1 d0 d1 w') (by kernel_rfl) (HB.drew HW.out) ?_
    refine det_take (v := ?_) (i := 0) (fuel := 14) (by simp; rfl) (by kernel_rfl) (by kernel_rfl) (by kernel_rfl) (Or.inl ⟨by rfl, fun w' hS => Or.inl ⟨w', ?_, hS⟩⟩) ?_
    rotate_left
    · obtain ⟨-, c0', c1'⟩ := HB.two (t := 25) (g := w.heap.size + 1) (a := .int .u64 r0) (b := .int .u64 r1) hS (by simp)
      go_simp
      all_goals with_reducible rfl
    simp only [Act.put, List.setIfInBounds_toArray, List.set_cons_zero, List.set_cons_succ]
    refine det_take (v := ?_) (i := 1) (fuel := 13) (by simp; rfl) (by kernel_rfl) (by kernel_rfl) (by kernel_rfl) (Or.inl ⟨by rfl, fun w' hS => Or.inr ⟨12, #[.int .u64 0], w', ?_, ?_⟩⟩) ?_
    rotate_left
    · go_simp
      all_goals with_reducible rfl
    · exact (of_c 0 _).mono fun e w2 ⟨_, hv, he, hb⟩ => ⟨by rw [he, hv], HB.below hS hb⟩
    simp only [Act.put, List.setIfInBounds_toArray, List.set_cons_zero, List.set_cons_succ]
    refine det_take (v := ?_) (i := 2) (fuel := 12) (by simp; rfl) (by kernel_rfl) (by kernel_rfl) (by kernel_rfl) (Or.inl ⟨by rfl, fun w' hS => Or.inl ⟨w', ?_, hS⟩⟩) ?_
    rotate_left
    · go_simp
      all_goals with_reducible rfl
    simp only [Act.put, List.setIfInBounds_toArray, List.set_cons_zero, List.set_cons_succ]
    refine det_take (v := ?_) (i := 3) (fuel := 11) (by simp; rfl) (by kernel_rfl) (by kernel_rfl) (by kernel_rfl) (Or.inl ⟨by rfl, fun w' hS => Or.inl ⟨w', ?_, hS⟩⟩) ?_
    rotate_left
    · go_simp
      all_goals with_reducible rfl
    simp only [Act.put, List.setIfInBounds_toArray, List.set_cons_zero, List.set_cons_succ]
    refine det_take (v := ?_) (i := 4) (fuel := 10) (by simp; rfl) (by kernel_rfl) (by kernel_rfl) (by kernel_rfl) (Or.inl ⟨by rfl, fun w' hS => Or.inl ⟨w', ?_, hS⟩⟩) ?_
    rotate_left
    · go_simp
      all_goals with_reducible rfl
    simp only [Act.put, List.setIfInBounds_toArray, List.set_cons_zero, List.set_cons_succ]
    refine det_take (v := ?_) (i := 5) (fuel := 9) (by simp; rfl) (by kernel_rfl) (by kernel_rfl) (by kernel_rfl) (Or.inl ⟨by rfl, fun w' hS => Or.inl ⟨w', ?_, hS⟩⟩) ?_
    rotate_left
    · go_simp
      all_goals with_reducible rfl
    simp only [Act.put, List.setIfInBounds_toArray, List.set_cons_zero, List.set_cons_succ]
    refine det_take (v := ?_) (i := 6) (fuel := 8) (by simp; rfl) (by kernel_rfl) (by kernel_rfl) (by kernel_rfl) (Or.inl ⟨by rfl, fun w' hS => Or.inl ⟨w', ?_, hS⟩⟩) ?_
    rotate_left
    · obtain ⟨-, c0', c1'⟩ := HB.two (t := 25) (g := w.heap.size) (a := .int .u64 c0) (b := .int .u64 c1) hS (by simp)
      go_simp
      all_goals with_reducible rfl
    simp only [Act.put, List.setIfInBounds_toArray, List.set_cons_zero, List.set_cons_succ]
    refine det_take (v := ?_) (i := 7) (fuel := 7) (by simp; rfl) (by kernel_rfl) (by kernel_rfl) (by kernel_rfl) (Or.inl ⟨by rfl, fun w' hS => Or.inl ⟨w', ?_, hS⟩⟩) ?_
    rotate_left
    · go_simp
      all_goals with_reducible rfl
    simp only [Act.put, List.setIfInBounds_toArray, List.set_cons_zero, List.set_cons_succ]
    refine det_take (v := ?_) (i := 8) (fuel := 6) (by simp; rfl) (by kernel_rfl) (by kernel_rfl) (by kernel_rfl) (Or.inl ⟨by rfl, fun w' hS => Or.inl ⟨w', ?_, hS⟩⟩) ?_
    rotate_left
    · go_simp
      all_goals with_reducible rfl
    simp only [Act.put, List.setIfInBounds_toArray, List.set_cons_zero, List.set_cons_succ]
    refine det_take (v := ?_) (i := 9) (fuel := 5) (by simp; rfl) (by kernel_rfl) (by kernel_rfl) (by kernel_rfl) (Or.inl ⟨by rfl, fun w' hS => Or.inl ⟨w', ?_, hS⟩⟩) ?_
    rotate_left
    · obtain ⟨-, c0', c1'⟩ := HB.two (t := 25) (g := w.heap.size + 1) (a := .int .u64 r0) (b := .int .u64 r1) hS (by simp)
      go_simp
      all_goals with_reducible rfl
    simp only [Act.put, List.setIfInBounds_toArray, List.set_cons_zero, List.set_cons_succ]
    refine det_take (v := ?_) (i := 10) (fuel := 4) (by simp; rfl) (by kernel_rfl) (by kernel_rfl) (by kernel_rfl) (Or.inl ⟨by rfl, fun w' hS => Or.inl ⟨w', ?_, hS⟩⟩) ?_
    rotate_left
    · obtain ⟨-, c0', c1'⟩ := HB.two (t := 25) (g := w.heap.size + 1 + 1) (a := .int .u64 d0) (b := .int .u64 d1) hS (by simp)
      go_simp
      all_goals with_reducible rfl
    simp only [Act.put, List.setIfInBounds_toArray, List.set_cons_zero, List.set_cons_succ]
    refine det_take (v := ?_) (i := 11) (fuel := 3) (by simp; rfl) (by kernel_rfl) (by kernel_rfl) (by kernel_rfl) (Or.inl ⟨by rfl, fun w' hS => Or.inr ⟨49, #[.agg #[.int .u64 r0, .int .u64 r1], .agg #[.int .u64 d0, .int .u64 d1]], w', ?_, ?_⟩⟩) ?_
    rotate_left
    · go_simp
      all_goals with_reducible rfl
    · exact (middle_v r0 r1 d0 d1 K _ hr0 hr1 hd0 hd1 HLE.out HK.out).mono fun e w2 ⟨_, hv, he, hb⟩ => ⟨by rw [he, hv], HB.below hS hb⟩
    simp only [Act.put, List.setIfInBounds_toArray, List.set_cons_zero, List.set_cons_succ]
    refine det_take (v := ?_) (i := 12) (fuel := 2) (by simp; rfl) (by kernel_rfl) (by kernel_rfl) (by kernel_rfl) (Or.inl ⟨by rfl, fun w' hS => Or.inl ⟨w', ?_, hS⟩⟩) ?_
    rotate_left
    · go_simp
      all_goals with_reducible rfl
    simp only [Act.put, List.setIfInBounds_toArray, List.set_cons_zero, List.set_cons_succ]
    refine det_take (v := ?_) (i := 13) (fuel := 1) (by simp; rfl) (by kernel_rfl) (by kernel_rfl) (by kernel_rfl) (Or.inl ⟨by rfl, fun w' hS => Or.inr ⟨48, #[.bool n, .bool true, .int .i64 K, .int .i64 mode], w', ?_, ?_⟩⟩) ?_
    rotate_left
    · go_simp
      all_goals with_reducible rfl
    · exact (farther_v n true false K mode _ HM.out H3.out HF.out).mono fun e w2 ⟨_, hv, he, hb⟩ => ⟨by rw [he, hv], HB.below hS hb⟩
    simp only [Act.put, List.setIfInBounds_toArray, List.set_cons_zero, List.set_cons_succ]
    refine det_take (v := ?_) (i := 14) (fuel := 0) (by simp; rfl) (by kernel_rfl) (by kernel_rfl) (by kernel_rfl) (Or.inl ⟨by rfl, fun w' hS => Or.inl ⟨w', ?_, hS⟩⟩) ?_
    rotate_left
    · go_simp
      all_goals with_reducible rfl
    simp only [Act.put, List.setIfInBounds_toArray, List.set_cons_zero, List.set_cons_succ]
    refine det_done (by kernel_rfl) (fun w' hS => ?_) _
    go_wp2_with fail
    refine (of_c 0 _).mono ?_
    rintro e w2 ⟨_, rfl, rfl, hb⟩
    replace hS := HB.below hS hb
    clear hb
    obtain ⟨lq, q0, q1⟩ := HB.two (t := 25) (g := w.heap.size + 1 + 1 + 1) (a := .int .u64 0) (b := .int .u64 0) hS (by simp)
    have Bz := HB.blk (g := w.heap.size + 1 + 1 + 1) (t := 25) (cs := #[.int .u64 0, .int .u64 0]) hS (by simp)
    have fz0 := Bz.frozen 0
    have fz1 := Bz.frozen 1
    clear Bz
    have HB1 := Lib.hid hS.1
    clear hS
    go_wp2
    exact bodyPost_ret (v := .agg #[.int .u64 0, .int .u64 0]) (by simp [results, Tryd.results34, go_sem, q0, q1]) rfl ⟨_, rfl, rfl, bel2 HB1.out hlg⟩
  · go_enter Tryd.func34, Tryd.ntmps34
    go_upto_region 1 with fail
    refine wp_region_det (S := fun w' => S4 w w.heap.size c0 c1 r0 r1 d0 d1 w') (by kernel_rfl) (HB.drew HW.out) ?_
    refine det_take (v := ?_) (i := 0) (fuel := 14) (by simp; rfl) (by kernel_rfl) (by kernel_rfl) (by kernel_rfl) (Or.inl ⟨by rfl, fun w' hS => Or.inl ⟨w', ?_, hS⟩⟩) ?_
    rotate_left
    · obtain ⟨-, c0', c1'⟩ := HB.two (t := 25) (g := w.heap.size + 1) (a := .int .u64 r0) (b := .int .u64 r1) hS (by simp)
      go_simp
      all_goals with_reducible rfl
    simp only [Act.put, List.setIfInBounds_toArray, List.set_cons_zero, List.set_cons_succ]
    refine det_take (v := ?_) (i := 1) (fuel := 13) (by simp; rfl) (by kernel_rfl) (by kernel_rfl) (by kernel_rfl) (Or.inl ⟨by rfl, fun w' hS => Or.inr ⟨12, #[.int .u64 0], w', ?_, ?_⟩⟩) ?_
    rotate_left
    · go_simp
      all_goals with_reducible rfl
    · exact (of_c 0 _).mono fun e w2 ⟨_, hv, he, hb⟩ => ⟨by rw [he, hv], HB.below hS hb⟩
    simp only [Act.put, List.setIfInBounds_toArray, List.set_cons_zero, List.set_cons_succ]
    refine det_take (v := ?_) (i := 2) (fuel := 12) (by simp; rfl) (by kernel_rfl) (by kernel_rfl) (by kernel_rfl) (Or.inl ⟨by rfl, fun w' hS => Or.inl ⟨w', ?_, hS⟩⟩) ?_
    rotate_left
    · go_simp
      all_goals with_reducible rfl
    simp only [Act.put, List.setIfInBounds_toArray, List.set_cons_zero, List.set_cons_succ]
    refine det_take (v := ?_) (i := 3) (fuel := 11) (by simp; rfl) (by kernel_rfl) (by kernel_rfl) (by kernel_rfl) (Or.inl ⟨by rfl, fun w' hS => Or.inl ⟨w', ?_, hS⟩⟩) ?_
    rotate_left
    · go_simp
      all_goals with_reducible rfl
    simp only [Act.put, List.setIfInBounds_toArray, List.set_cons_zero, List.set_cons_succ]
    refine det_take (v := ?_) (i := 4) (fuel := 10) (by simp; rfl) (by kernel_rfl) (by kernel_rfl) (by kernel_rfl) (Or.inl ⟨by rfl, fun w' hS => Or.inl ⟨w', ?_, hS⟩⟩) ?_
    rotate_left
    · go_simp
      all_goals with_reducible rfl
    simp only [Act.put, List.setIfInBounds_toArray, List.set_cons_zero, List.set_cons_succ]
    refine det_take (v := ?_) (i := 5) (fuel := 9) (by simp; rfl) (by kernel_rfl) (by kernel_rfl) (by kernel_rfl) (Or.inl ⟨by rfl, fun w' hS => Or.inl ⟨w', ?_, hS⟩⟩) ?_
    rotate_left
    · go_simp
      all_goals with_reducible rfl
    simp only [Act.put, List.setIfInBounds_toArray, List.set_cons_zero, List.set_cons_succ]
    refine det_take (v := ?_) (i := 6) (fuel := 8) (by simp; rfl) (by kernel_rfl) (by kernel_rfl) (by kernel_rfl) (Or.inl ⟨by rfl, fun w' hS => Or.inl ⟨w', ?_, hS⟩⟩) ?_
    rotate_left
    · obtain ⟨-, c0', c1'⟩ := HB.two (t := 25) (g := w.heap.size) (a := .int .u64 c0) (b := .int .u64 c1) hS (by simp)
      go_simp
      all_goals with_reducible rfl
    simp only [Act.put, List.setIfInBounds_toArray, List.set_cons_zero, List.set_cons_succ]
    refine det_take (v := ?_) (i := 7) (fuel := 7) (by simp; rfl) (by kernel_rfl) (by kernel_rfl) (by kernel_rfl) (Or.inl ⟨by rfl, fun w' hS => Or.inl ⟨w', ?_, hS⟩⟩) ?_
    rotate_left
    · go_simp
      all_goals with_reducible rfl
    simp only [Act.put, List.setIfInBounds_toArray, List.set_cons_zero, List.set_cons_succ]
    refine det_take (v := ?_) (i := 8) (fuel := 6) (by simp; rfl) (by kernel_rfl) (by kernel_rfl) (by kernel_rfl) (Or.inl ⟨by rfl, fun w' hS => Or.inl ⟨w', ?_, hS⟩⟩) ?_
    rotate_left
    · go_simp
      all_goals with_reducible rfl
    simp only [Act.put, List.setIfInBounds_toArray, List.set_cons_zero, List.set_cons_succ]
    refine det_take (v := ?_) (i := 9) (fuel := 5) (by simp; rfl) (by kernel_rfl) (by kernel_rfl) (by kernel_rfl) (Or.inl ⟨by rfl, fun w' hS => Or.inl ⟨w', ?_, hS⟩⟩) ?_
    rotate_left
    · obtain ⟨-, c0', c1'⟩ := HB.two (t := 25) (g := w.heap.size + 1) (a := .int .u64 r0) (b := .int .u64 r1) hS (by simp)
      go_simp
      all_goals with_reducible rfl
    simp only [Act.put, List.setIfInBounds_toArray, List.set_cons_zero, List.set_cons_succ]
    refine det_take (v := ?_) (i := 10) (fuel := 4) (by simp; rfl) (by kernel_rfl) (by kernel_rfl) (by kernel_rfl) (Or.inl ⟨by rfl, fun w' hS => Or.inl ⟨w', ?_, hS⟩⟩) ?_
    rotate_left
    · obtain ⟨-, c0', c1'⟩ := HB.two (t := 25) (g := w.heap.size + 1 + 1) (a := .int .u64 d0) (b := .int .u64 d1) hS (by simp)
      go_simp
      all_goals with_reducible rfl
    simp only [Act.put, List.setIfInBounds_toArray, List.set_cons_zero, List.set_cons_succ]
    refine det_take (v := ?_) (i := 11) (fuel := 3) (by simp; rfl) (by kernel_rfl) (by kernel_rfl) (by kernel_rfl) (Or.inl ⟨by rfl, fun w' hS => Or.inr ⟨49, #[.agg #[.int .u64 r0, .int .u64 r1], .agg #[.int .u64 d0, .int .u64 d1]], w', ?_, ?_⟩⟩) ?_
    rotate_left
    · go_simp
      all_goals with_reducible rfl
    · exact (middle_v r0 r1 d0 d1 K _ hr0 hr1 hd0 hd1 HLE.out HK.out).mono fun e w2 ⟨_, hv, he, hb⟩ => ⟨by rw [he, hv], HB.below hS hb⟩
    simp only [Act.put, List.setIfInBounds_toArray, List.set_cons_zero, List.set_cons_succ]
    refine det_take (v := ?_) (i := 12) (fuel := 2) (by simp; rfl) (by kernel_rfl) (by kernel_rfl) (by kernel_rfl) (Or.inl ⟨by rfl, fun w' hS => Or.inl ⟨w', ?_, hS⟩⟩) ?_
    rotate_left
    · go_simp
      all_goals with_reducible rfl
    simp only [Act.put, List.setIfInBounds_toArray, List.set_cons_zero, List.set_cons_succ]
    refine det_take (v := ?_) (i := 13) (fuel := 1) (by simp; rfl) (by kernel_rfl) (by kernel_rfl) (by kernel_rfl) (Or.inl ⟨by rfl, fun w' hS => Or.inr ⟨48, #[.bool n, .bool true, .int .i64 K, .int .i64 mode], w', ?_, ?_⟩⟩) ?_
    rotate_left
    · go_simp
      all_goals with_reducible rfl
    · exact (farther_v n true true K mode _ HM.out H3.out HF.out).mono fun e w2 ⟨_, hv, he, hb⟩ => ⟨by rw [he, hv], HB.below hS hb⟩
    simp only [Act.put, List.setIfInBounds_toArray, List.set_cons_zero, List.set_cons_succ]
    refine det_take (v := ?_) (i := 14) (fuel := 0) (by simp; rfl) (by kernel_rfl) (by kernel_rfl) (by kernel_rfl) (Or.inl ⟨by rfl, fun w' hS => Or.inl ⟨w', ?_, hS⟩⟩) ?_
    rotate_left
    · go_simp
      all_goals with_reducible rfl
    simp only [Act.put, List.setIfInBounds_toArray, List.set_cons_zero, List.set_cons_succ]
    refine det_done (by kernel_rfl) (fun w' hS => ?_) _
    go_wp2_with fail
    refine (of_c 1 _).mono ?_
    rintro e w2 ⟨_, rfl, rfl, hb⟩
    replace hS := HB.below hS hb
    clear hb
    obtain ⟨lq, q0, q1⟩ := HB.two (t := 25) (g := w.heap.size + 1 + 1 + 1) (a := .int .u64 0) (b := .int .u64 0) hS (by simp)
    have Bz := HB.blk (g := w.heap.size + 1 + 1 + 1) (t := 25) (cs := #[.int .u64 0, .int .u64 0]) hS (by simp)
    have fz0 := Bz.frozen 0
    have fz1 := Bz.frozen 1
    clear Bz
    have HB1 := Lib.hid hS.1
    clear hS
    go_wp2
    exact bodyPost_ret (v := .agg #[.int .u64 1, .int .u64 0]) (by simp [results, Tryd.results34, go_sem, q0, q1]) rfl ⟨_, rfl, rfl, bel2 HB1.out hlg⟩
  · go_enter Tryd.func34, Tryd.ntmps34
    go_upto_region 1 with fail
    refine wp_region_det (S := fun w' => S4 w w.heap.size c0 c1 r0 r1 d0 d1 w') (by kernel_rfl) (HB.drew HW.out) ?_
    refine det_take (v := ?_) (i := 0) (fuel := 14) (by simp; rfl) (by kernel_rfl) (by kernel_rfl) (by kernel_rfl) (Or.inl ⟨by rfl, fun w' hS => Or.inl ⟨w', ?_, hS⟩⟩) ?_
    rotate_left
    · obtain ⟨-, c0', c1'⟩ := HB.two (t := 25) (g := w.heap.size + 1) (a := .int .u64 r0) (b := .int .u64 r1) hS (by simp)
      go_simp
      all_goals with_reducible rfl
    simp only [Act.put, List.setIfInBounds_toArray, List.set_cons_zero, List.set_cons_succ]
    refine det_take (v := ?_) (i := 1) (fuel := 13) (by simp; rfl) (by kernel_rfl) (by kernel_rfl) (by kernel_rfl) (Or.inl ⟨by rfl, fun w' hS => Or.inr ⟨12, #[.int .u64 0], w', ?_, ?_⟩⟩) ?_
    rotate_left
    · go_simp
      all_goals with_reducible rfl
    · exact (of_c 0 _).mono fun e w2 ⟨_, hv, he, hb⟩ => ⟨by rw [he, hv], HB.below hS hb⟩
    simp only [Act.put, List.setIfInBounds_toArray, List.set_cons_zero, List.set_cons_succ]
    refine det_take (v := ?_) (i := 2) (fuel := 12) (by simp; rfl) (by kernel_rfl) (by kernel_rfl) (by kernel_rfl) (Or.inl ⟨by rfl, fun w' hS => Or.inl ⟨w', ?_, hS⟩⟩) ?_
    rotate_left
    · go_simp
      all_goals with_reducible rfl
    simp only [Act.put, List.setIfInBounds_toArray, List.set_cons_zero, List.set_cons_succ]
    refine det_take (v := ?_) (i := 3) (fuel := 11) (by simp; rfl) (by kernel_rfl) (by kernel_rfl) (by kernel_rfl) (Or.inl ⟨by rfl, fun w' hS => Or.inl ⟨w', ?_, hS⟩⟩) ?_
    rotate_left
    · go_simp
      all_goals with_reducible rfl
    simp only [Act.put, List.setIfInBounds_toArray, List.set_cons_zero, List.set_cons_succ]
    refine det_take (v := undef) (i := 4) (fuel := 10) (by simp; rfl) (by kernel_rfl) (by kernel_rfl) (by kernel_rfl) (Or.inr ⟨by rfl, rfl⟩) ?_
    simp only [Act.put, List.setIfInBounds_toArray, List.set_cons_zero, List.set_cons_succ]
    refine det_take (v := undef) (i := 5) (fuel := 9) (by simp; rfl) (by kernel_rfl) (by kernel_rfl) (by kernel_rfl) (Or.inr ⟨by rfl, rfl⟩) ?_
    simp only [Act.put, List.setIfInBounds_toArray, List.set_cons_zero, List.set_cons_succ]
    refine det_take (v := undef) (i := 6) (fuel := 8) (by simp; rfl) (by kernel_rfl) (by kernel_rfl) (by kernel_rfl) (Or.inr ⟨by rfl, rfl⟩) ?_
    simp only [Act.put, List.setIfInBounds_toArray, List.set_cons_zero, List.set_cons_succ]
    refine det_take (v := undef) (i := 7) (fuel := 7) (by simp; rfl) (by kernel_rfl) (by kernel_rfl) (by kernel_rfl) (Or.inr ⟨by rfl, rfl⟩) ?_
    simp only [Act.put, List.setIfInBounds_toArray, List.set_cons_zero, List.set_cons_succ]
    refine det_take (v := undef) (i := 8) (fuel := 6) (by simp; rfl) (by kernel_rfl) (by kernel_rfl) (by kernel_rfl) (Or.inr ⟨by rfl, rfl⟩) ?_
    simp only [Act.put, List.setIfInBounds_toArray, List.set_cons_zero, List.set_cons_succ]
    refine det_take (v := undef) (i := 9) (fuel := 5) (by simp; rfl) (by kernel_rfl) (by kernel_rfl) (by kernel_rfl) (Or.inr ⟨by rfl, rfl⟩) ?_
    simp only [Act.put, List.setIfInBounds_toArray, List.set_cons_zero, List.set_cons_succ]
    refine det_take (v := undef) (i := 10) (fuel := 4) (by simp; rfl) (by kernel_rfl) (by kernel_rfl) (by kernel_rfl) (Or.inr ⟨by rfl, rfl⟩) ?_
    simp only [Act.put, List.setIfInBounds_toArray, List.set_cons_zero, List.set_cons_succ]
    refine det_take (v := undef) (i := 11) (fuel := 3) (by simp; rfl) (by kernel_rfl) (by kernel_rfl) (by kernel_rfl) (Or.inr ⟨by rfl, rfl⟩) ?_
    simp only [Act.put, List.setIfInBounds_toArray, List.set_cons_zero, List.set_cons_succ]
    refine det_take (v := undef) (i := 12) (fuel := 2) (by simp; rfl) (by kernel_rfl) (by kernel_rfl) (by kernel_rfl) (Or.inr ⟨by rfl, rfl⟩) ?_
    simp only [Act.put, List.setIfInBounds_toArray, List.set_cons_zero, List.set_cons_succ]
    refine det_take (v := undef) (i := 13) (fuel := 1) (by simp; rfl) (by kernel_rfl) (by kernel_rfl) (by kernel_rfl) (Or.inr ⟨by rfl, rfl⟩) ?_
    simp only [Act.put, List.setIfInBounds_toArray, List.set_cons_zero, List.set_cons_succ]
    refine det_take (v := ?_) (i := 14) (fuel := 0) (by simp; rfl) (by kernel_rfl) (by kernel_rfl) (by kernel_rfl) (Or.inl ⟨by rfl, fun w' hS => Or.inl ⟨w', ?_, hS⟩⟩) ?_
    rotate_left
    · go_simp
      all_goals with_reducible rfl
    simp only [Act.put, List.setIfInBounds_toArray, List.set_cons_zero, List.set_cons_succ]
    refine det_done (by kernel_rfl) (fun w' hS => ?_) _
    go_wp2_with fail
    refine (of_c 0 _).mono ?_
    rintro e w2 ⟨_, rfl, rfl, hb⟩
    replace hS := HB.below hS hb
    clear hb
    obtain ⟨lq, q0, q1⟩ := HB.two (t := 25) (g := w.heap.size + 1 + 1 + 1) (a := .int .u64 0) (b := .int .u64 0) hS (by simp)
    have Bz := HB.blk (g := w.heap.size + 1 + 1 + 1) (t := 25) (cs := #[.int .u64 0, .int .u64 0]) hS (by simp)
    have fz0 := Bz.frozen 0
    have fz1 := Bz.frozen 1
    clear Bz
    have HB1 := Lib.hid hS.1
    clear hS
    go_wp2
    exact bodyPost_ret (v := .agg #[.int .u64 0, .int .u64 0]) (by simp [results, Tryd.results34, go_sem, q0, q1]) rfl ⟨_, rfl, rfl, bel2 HB1.out hlg⟩
  · go_enter Tryd.func34, Tryd.ntmps34
    go_upto_region 1 with fail
    refine wp_region_det (S := fun w' => S4 w w.heap.size c0 c1 r0 r1 d0 d1 w') (by kernel_rfl) (HB.drew HW.out) ?_
    refine det_take (v := ?_) (i := 0) (fuel := 14) (by simp; rfl) (by kernel_rfl) (by kernel_rfl) (by kernel_rfl) (Or.inl ⟨by rfl, fun w' hS => Or.inl ⟨w', ?_, hS⟩⟩) ?_
    rotate_left
    · obtain ⟨-, c0', c1'⟩ := HB.two (t := 25) (g := w.heap.size + 1) (a := .int .u64 r0) (b := .int .u64 r1) hS (by simp)
      go_simp
      all_goals with_reducible rfl
    simp only [Act.put, List.setIfInBounds_toArray, List.set_cons_zero, List.set_cons_succ]
    refine det_take (v := ?_) (i := 1) (fuel := 13) (by simp; rfl) (by kernel_rfl) (by kernel_rfl) (by kernel_rfl) (Or.inl ⟨by rfl, fun w' hS => Or.inr ⟨12, #[.int .u64 0], w', ?_, ?_⟩⟩) ?_
    rotate_left
    · go_simp
      all_goals with_reducible rfl
    · exact (of_c 0 _).mono fun e w2 ⟨_, hv, he, hb⟩ => ⟨by rw [he, hv], HB.below hS hb⟩
    simp only [Act.put, List.setIfInBounds_toArray, List.set_cons_zero, List.set_cons_succ]
    refine det_take (v := ?_) (i := 2) (fuel := 12) (by simp; rfl) (by kernel_rfl) (by kernel_rfl) (by kernel_rfl) (Or.inl ⟨by rfl, fun w' hS => Or.inl ⟨w', ?_, hS⟩⟩) ?_
    rotate_left
    · go_simp
      all_goals with_reducible rfl
    simp only [Act.put, List.setIfInBounds_toArray, List.set_cons_zero, List.set_cons_succ]
    refine det_take (v := ?_) (i := 3) (fuel := 11) (by simp; rfl) (by kernel_rfl) (by kernel_rfl) (by kernel_rfl) (Or.inl ⟨by rfl, fun w' hS => Or.inl ⟨w', ?_, hS⟩⟩) ?_
    rotate_left
    · go_simp
      all_goals with_reducible rfl
    simp only [Act.put, List.setIfInBounds_toArray, List.set_cons_zero, List.set_cons_succ]
    refine det_take (v := undef) (i := 4) (fuel := 10) (by simp; rfl) (by kernel_rfl) (by kernel_rfl) (by kernel_rfl) (Or.inr ⟨by rfl, rfl⟩) ?_
    simp only [Act.put, List.setIfInBounds_toArray, List.set_cons_zero, List.set_cons_succ]
    refine det_take (v := undef) (i := 5) (fuel := 9) (by simp; rfl) (by kernel_rfl) (by kernel_rfl) (by kernel_rfl) (Or.inr ⟨by rfl, rfl⟩) ?_
    simp only [Act.put, List.setIfInBounds_toArray, List.set_cons_zero, List.set_cons_succ]
    refine det_take (v := undef) (i := 6) (fuel := 8) (by simp; rfl) (by kernel_rfl) (by kernel_rfl) (by kernel_rfl) (Or.inr ⟨by rfl, rfl⟩) ?_
    simp only [Act.put, List.setIfInBounds_toArray, List.set_cons_zero, List.set_cons_succ]
    refine det_take (v := undef) (i := 7) (fuel := 7) (by simp; rfl) (by kernel_rfl) (by kernel_rfl) (by kernel_rfl) (Or.inr ⟨by rfl, rfl⟩) ?_
    simp only [Act.put, List.setIfInBounds_toArray, List.set_cons_zero, List.set_cons_succ]
    refine det_take (v := undef) (i := 8) (fuel := 6) (by simp; rfl) (by kernel_rfl) (by kernel_rfl) (by kernel_rfl) (Or.inr ⟨by rfl, rfl⟩) ?_
    simp only [Act.put, List.setIfInBounds_toArray, List.set_cons_zero, List.set_cons_succ]
    refine det_take (v := undef) (i := 9) (fuel := 5) (by simp; rfl) (by kernel_rfl) (by kernel_rfl) (by kernel_rfl) (Or.inr ⟨by rfl, rfl⟩) ?_
    simp only [Act.put, List.setIfInBounds_toArray, List.set_cons_zero, List.set_cons_succ]
    refine det_take (v := undef) (i := 10) (fuel := 4) (by simp; rfl) (by kernel_rfl) (by kernel_rfl) (by kernel_rfl) (Or.inr ⟨by rfl, rfl⟩) ?_
    simp only [Act.put, List.setIfInBounds_toArray, List.set_cons_zero, List.set_cons_succ]
    refine det_take (v := undef) (i := 11) (fuel := 3) (by simp; rfl) (by kernel_rfl) (by kernel_rfl) (by kernel_rfl) (Or.inr ⟨by rfl, rfl⟩) ?_
    simp only [Act.put, List.setIfInBounds_toArray, List.set_cons_zero, List.set_cons_succ]
    refine det_take (v := undef) (i := 12) (fuel := 2) (by simp; rfl) (by kernel_rfl) (by kernel_rfl) (by kernel_rfl) (Or.inr ⟨by rfl, rfl⟩) ?_
    simp only [Act.put, List.setIfInBounds_toArray, List.set_cons_zero, List.set_cons_succ]
    refine det_take (v := undef) (i := 13) (fuel := 1) (by simp; rfl) (by kernel_rfl) (by kernel_rfl) (by kernel_rfl) (Or.inr ⟨by rfl, rfl⟩) ?_
    simp only [Act.put, List.setIfInBounds_toArray, List.set_cons_zero, List.set_cons_succ]
    refine det_take (v := ?_) (i := 14) (fuel := 0) (by simp; rfl) (by kernel_rfl) (by kernel_rfl) (by kernel_rfl) (Or.inl ⟨by rfl, fun w' hS => Or.inl ⟨w', ?_, hS⟩⟩) ?_
    rotate_left
    · go_simp
      all_goals with_reducible rfl
    simp only [Act.put, List.setIfInBounds_toArray, List.set_cons_zero, List.set_cons_succ]
    refine det_done (by kernel_rfl) (fun w' hS => ?_) _
    go_wp2_with fail
    refine (of_c 0 _).mono ?_
    rintro e w2 ⟨_, rfl, rfl, hb⟩
    replace hS := HB.below hS hb
    clear hb
    obtain ⟨lq, q0, q1⟩ := HB.two (t := 25) (g := w.heap.size + 1 + 1 + 1) (a := .int .u64 0) (b := .int .u64 0) hS (by simp)
    have Bz := HB.blk (g := w.heap.size + 1 + 1 + 1) (t := 25) (cs := #[.int .u64 0, .int .u64 0]) hS (by simp)
    have fz0 := Bz.frozen 0
    have fz1 := Bz.frozen 1
    clear Bz
    have HB1 := Lib.hid hS.1
    clear hS
    go_wp2
    exact bodyPost_ret (v := .agg #[.int .u64 0, .int .u64 0]) (by simp [results, Tryd.results34, go_sem, q0, q1]) rfl ⟨_, rfl, rfl, bel2 HB1.out hlg⟩
  · go_enter Tryd.func34, Tryd.ntmps34
    go_upto_region 1 with fail
    refine wp_region_det (S := fun w' => S4 w w.heap.size c0 c1 r0 r1 d0 d1 w') (by kernel_rfl) (HB.drew HW.out) ?_
    refine det_take (v := ?_) (i := 0) (fuel := 14) (by simp; rfl) (by kernel_rfl) (by kernel_rfl) (by kernel_rfl) (Or.inl ⟨by rfl, fun w' hS => Or.inl ⟨w', ?_, hS⟩⟩) ?_
    rotate_left
    · obtain ⟨-, c0', c1'⟩ := HB.two (t := 25) (g := w.heap.size + 1) (a := .int .u64 r0) (b := .int .u64 r1) hS (by simp)
      go_simp
      all_goals with_reducible rfl
    simp only [Act.put, List.setIfInBounds_toArray, List.set_cons_zero, List.set_cons_succ]
    refine det_take (v := ?_) (i := 1) (fuel := 13) (by simp; rfl) (by kernel_rfl) (by kernel_rfl) (by kernel_rfl) (Or.inl ⟨by rfl, fun w' hS => Or.inr ⟨12, #[.int .u64 0], w', ?_, ?_⟩⟩) ?_
    rotate_left
    · go_simp
      all_goals with_reducible rfl
    · exact (of_c 0 _).mono fun e w2 ⟨_, hv, he, hb⟩ => ⟨by rw [he, hv], HB.below hS hb⟩
    simp only [Act.put, List.setIfInBounds_toArray, List.set_cons_zero, List.set_cons_succ]
    refine det_take (v := ?_) (i := 2) (fuel := 12) (by simp; rfl) (by kernel_rfl) (by kernel_rfl) (by kernel_rfl) (Or.inl ⟨by rfl, fun w' hS => Or.inl ⟨w', ?_, hS⟩⟩) ?_
    rotate_left
    · go_simp
      all_goals with_reducible rfl
    simp only [Act.put, List.setIfInBounds_toArray, List.set_cons_zero, List.set_cons_succ]
    refine det_take (v := ?_) (i := 3) (fuel := 11) (by simp; rfl) (by kernel_rfl) (by kernel_rfl) (by kernel_rfl) (Or.inl ⟨by rfl, fun w' hS => Or.inl ⟨w', ?_, hS⟩⟩) ?_
    rotate_left
    · go_simp
      all_goals with_reducible rfl
    simp only [Act.put, List.setIfInBounds_toArray, List.set_cons_zero, List.set_cons_succ]
    refine det_take (v := ?_) (i := 4) (fuel := 10) (by simp; rfl) (by kernel_rfl) (by kernel_rfl) (by kernel_rfl) (Or.inl ⟨by rfl, fun w' hS => Or.inl ⟨w', ?_, hS⟩⟩) ?_
    rotate_left
    · go_simp
      all_goals with_reducible rfl
    simp only [Act.put, List.setIfInBounds_toArray, List.set_cons_zero, List.set_cons_succ]
    refine det_take (v := ?_) (i := 5) (fuel := 9) (by simp; rfl) (by kernel_rfl) (by kernel_rfl) (by kernel_rfl) (Or.inl ⟨by rfl, fun w' hS => Or.inl ⟨w', ?_, hS⟩⟩) ?_
    rotate_left
    · go_simp
      all_goals with_reducible rfl
    simp only [Act.put, List.setIfInBounds_toArray, List.set_cons_zero, List.set_cons_succ]
    refine det_take (v := ?_) (i := 6) (fuel := 8) (by simp; rfl) (by kernel_rfl) (by kernel_rfl) (by kernel_rfl) (Or.inl ⟨by rfl, fun w' hS => Or.inl ⟨w', ?_, hS⟩⟩) ?_
    rotate_left
    · obtain ⟨-, c0', c1'⟩ := HB.two (t := 25) (g := w.heap.size) (a := .int .u64 c0) (b := .int .u64 c1) hS (by simp)
      go_simp
      all_goals with_reducible rfl
    simp only [Act.put, List.setIfInBounds_toArray, List.set_cons_zero, List.set_cons_succ]
    refine det_take (v := ?_) (i := 7) (fuel := 7) (by simp; rfl) (by kernel_rfl) (by kernel_rfl) (by kernel_rfl) (Or.inl ⟨by rfl, fun w' hS => Or.inl ⟨w', ?_, hS⟩⟩) ?_
    rotate_left
    · go_simp
      all_goals with_reducible rfl
    simp only [Act.put, List.setIfInBounds_toArray, List.set_cons_zero, List.set_cons_succ]
    refine det_take (v := ?_) (i := 8) (fuel := 6) (by simp; rfl) (by kernel_rfl) (by kernel_rfl) (by kernel_rfl) (Or.inl ⟨by rfl, fun w' hS => Or.inl ⟨w', ?_, hS⟩⟩) ?_
    rotate_left
    · go_simp
      all_goals with_reducible rfl
    simp only [Act.put, List.setIfInBounds_toArray, List.set_cons_zero, List.set_cons_succ]
    refine det_take (v := ?_) (i := 9) (fuel := 5) (by simp; rfl) (by kernel_rfl) (by kernel_rfl) (by kernel_rfl) (Or.inl ⟨by rfl, fun w' hS => Or.inl ⟨w', ?_, hS⟩⟩) ?_
    rotate_left
    · obtain ⟨-, c0', c1'⟩ := HB.two (t := 25) (g := w.heap.size + 1) (a := .int .u64 r0) (b := .int .u64 r1) hS (by simp)
      go_simp
      all_goals with_reducible rfl
    simp only [Act.put, List.setIfInBounds_toArray, List.set_cons_zero, List.set_cons_succ]
    refine det_take (v := ?_) (i := 10) (fuel := 4) (by simp; rfl) (by kernel_rfl) (by kernel_rfl) (by kernel_rfl) (Or.inl ⟨by rfl, fun w' hS => Or.inl ⟨w', ?_, hS⟩⟩) ?_
    rotate_left
    · obtain ⟨-, c0', c1'⟩ := HB.two (t := 25) (g := w.heap.size + 1 + 1) (a := .int .u64 d0) (b := .int .u64 d1) hS (by simp)
      go_simp
      all_goals with_reducible rfl
    simp only [Act.put, List.setIfInBounds_toArray, List.set_cons_zero, List.set_cons_succ]
    refine det_take (v := ?_) (i := 11) (fuel := 3) (by simp; rfl) (by kernel_rfl) (by kernel_rfl) (by kernel_rfl) (Or.inl ⟨by rfl, fun w' hS => Or.inr ⟨49, #[.agg #[.int .u64 r0, .int .u64 r1], .agg #[.int .u64 d0, .int .u64 d1]], w', ?_, ?_⟩⟩) ?_
    rotate_left
    · go_simp
      all_goals with_reducible rfl
    · exact (middle_v r0 r1 d0 d1 K _ hr0 hr1 hd0 hd1 HLE.out HK.out).mono fun e w2 ⟨_, hv, he, hb⟩ => ⟨by rw [he, hv], HB.below hS hb⟩
    simp only [Act.put, List.setIfInBounds_toArray, List.set_cons_zero, List.set_cons_succ]
    refine det_take (v := ?_) (i := 12) (fuel := 2) (by simp; rfl) (by kernel_rfl) (by kernel_rfl) (by kernel_rfl) (Or.inl ⟨by rfl, fun w' hS => Or.inl ⟨w', ?_, hS⟩⟩) ?_
    rotate_left
    · go_simp
      all_goals with_reducible rfl
    simp only [Act.put, List.setIfInBounds_toArray, List.set_cons_zero, List.set_cons_succ]
    refine det_take (v := ?_) (i := 13) (fuel := 1) (by simp; rfl) (by kernel_rfl) (by kernel_rfl) (by kernel_rfl) (Or.inl ⟨by rfl, fun w' hS => Or.inr ⟨48, #[.bool n, .bool false, .int .i64 K, .int .i64 mode], w', ?_, ?_⟩⟩) ?_
    rotate_left
    · go_simp
      all_goals with_reducible rfl
    · exact (farther_v n false false K mode _ HM.out H3.out HF.out).mono fun e w2 ⟨_, hv, he, hb⟩ => ⟨by rw [he, hv], HB.below hS hb⟩
    simp only [Act.put, List.setIfInBounds_toArray, List.set_cons_zero, List.set_cons_succ]
    refine det_take (v := ?_) (i := 14) (fuel := 0) (by simp; rfl) (by kernel_rfl) (by kernel_rfl) (by kernel_rfl) (Or.inl ⟨by rfl, fun w' hS => Or.inl ⟨w', ?_, hS⟩⟩) ?_
    rotate_left
    · go_simp
      all_goals with_reducible rfl
    simp only [Act.put, List.setIfInBounds_toArray, List.set_cons_zero, List.set_cons_succ]
    refine det_done (by kernel_rfl) (fun w' hS => ?_) _
    go_wp2_with fail
    refine (of_c 0 _).mono ?_
    rintro e w2 ⟨_, rfl, rfl, hb⟩
    replace hS := HB.below hS hb
    clear hb
    obtain ⟨lq, q0, q1⟩ := HB.two (t := 25) (g := w.heap.size + 1 + 1 + 1) (a := .int .u64 0) (b := .int .u64 0) hS (by simp)
    have Bz := HB.blk (g := w.heap.size + 1 + 1 + 1) (t := 25) (cs := #[.int .u64 0, .int .u64 0]) hS (by simp)
    have fz0 := Bz.frozen 0
    have fz1 := Bz.frozen 1
    clear Bz
    have HB1 := Lib.hid hS.1
    clear hS
    go_wp2
    exact bodyPost_ret (v := .agg #[.int .u64 0, .int .u64 0]) (by simp [results, Tryd.results34, go_sem, q0, q1]) rfl ⟨_, rfl, rfl, bel2 HB1.out hlg⟩
  · go_enter Tryd.func34, Tryd.ntmps34
    go_upto_region 1 with fail
    refine wp_region_det (S := fun w' => S4 w w.heap.size c0 c1 r0 r1 d0 d1 w') (by kernel_rfl) (HB.drew HW.out) ?_
    refine det_take (v := ?_) (i := 0) (fuel := 14) (by simp; rfl) (by kernel_rfl) (by kernel_rfl) (by kernel_rfl) (Or.inl ⟨by rfl, fun w' hS => Or.inl ⟨w', ?_, hS⟩⟩) ?_
    rotate_left
    · obtain ⟨-, c0', c1'⟩ := HB.two (t := 25) (g := w.heap.size + 1) (a := .int .u64 r0) (b := .int .u64 r1) hS (by simp)
      go_simp
      all_goals with_reducible rfl
    simp only [Act.put, List.setIfInBounds_toArray, List.set_cons_zero, List.set_cons_succ]
    refine det_take (v := ?_) (i := 1) (fuel := 13) (by simp; rfl) (by kernel_rfl) (by kernel_rfl) (by kernel_rfl) (Or.inl ⟨by rfl, fun w' hS => Or.inr ⟨12, #[.int .u64 0], w', ?_, ?_⟩⟩) ?_
    rotate_left
    · go_simp
      all_goals with_reducible rfl
    · exact (of_c 0 _).mono fun e w2 ⟨_, hv, he, hb⟩ => ⟨by rw [he, hv], HB.below hS hb⟩
    simp only [Act.put, List.setIfInBounds_toArray, List.set_cons_zero, List.set_cons_succ]
    refine det_take (v := ?_) (i := 2) (fuel := 12) (by simp; rfl) (by kernel_rfl) (by kernel_rfl) (by kernel_rfl) (Or.inl ⟨by rfl, fun w' hS => Or.inl ⟨w', ?_, hS⟩⟩) ?_
    rotate_left
    · go_simp
      all_goals with_reducible rfl
    simp only [Act.put, List.setIfInBounds_toArray, List.set_cons_zero, List.set_cons_succ]
    refine det_take (v := ?_) (i := 3) (fuel := 11) (by simp; rfl) (by kernel_rfl) (by kernel_rfl) (by kernel_rfl) (Or.inl ⟨by rfl, fun w' hS => Or.inl ⟨w', ?_, hS⟩⟩) ?_
    rotate_left
    · go_simp
      all_goals with_reducible rfl
    simp only [Act.put, List.setIfInBounds_toArray, List.set_cons_zero, List.set_cons_succ]
    refine det_take (v := ?_) (i := 4) (fuel := 10) (by simp; rfl) (by kernel_rfl) (by kernel_rfl) (by kernel_rfl) (Or.inl ⟨by rfl, fun w' hS => Or.inl ⟨w', ?_, hS⟩⟩) ?_
    rotate_left
    · go_simp
      all_goals with_reducible rfl
    simp only [Act.put, List.setIfInBounds_toArray, List.set_cons_zero, List.set_cons_succ]
    refine det_take (v := ?_) (i := 5) (fuel := 9) (by simp; rfl) (by kernel_rfl) (by kernel_rfl) (by kernel_rfl) (Or.inl ⟨by rfl, fun w' hS => Or.inl ⟨w', ?_, hS⟩⟩) ?_
    rotate_left
    · go_simp
      all_goals with_reducible rfl
    simp only [Act.put, List.setIfInBounds_toArray, List.set_cons_zero, List.set_cons_succ]
    refine det_take (v := ?_) (i := 6) (fuel := 8) (by simp; rfl) (by kernel_rfl) (by kernel_rfl) (by kernel_rfl) (Or.inl ⟨by rfl, fun w' hS => Or.inl ⟨w', ?_, hS⟩⟩) ?_
    rotate_left
    · obtain ⟨-, c0', c1'⟩ := HB.two (t := 25) (g := w.heap.size) (a := .int .u64 c0) (b := .int .u64 c1) hS (by simp)
      go_simp
      all_goals with_reducible rfl
    simp only [Act.put, List.setIfInBounds_toArray, List.set_cons_zero, List.set_cons_succ]
    refine det_take (v := ?_) (i := 7) (fuel := 7) (by simp; rfl) (by kernel_rfl) (by kernel_rfl) (by kernel_rfl) (Or.inl ⟨by rfl, fun w' hS => Or.inl ⟨w', ?_, hS⟩⟩) ?_
    rotate_left
    · go_simp
      all_goals with_reducible rfl
    simp only [Act.put, List.setIfInBounds_toArray, List.set_cons_zero, List.set_cons_succ]
    refine det_take (v := ?_) (i := 8) (fuel := 6) (by simp; rfl) (by kernel_rfl) (by kernel_rfl) (by kernel_rfl) (Or.inl ⟨by rfl, fun w' hS => Or.inl ⟨w', ?_, hS⟩⟩) ?_
    rotate_left
    · go_simp
      all_goals with_reducible rfl
    simp only [Act.put, List.setIfInBounds_toArray, List.set_cons_zero, List.set_cons_succ]
    refine det_take (v := ?_) (i := 9) (fuel := 5) (by simp; rfl) (by kernel_rfl) (by kernel_rfl) (by kernel_rfl) (Or.inl ⟨by rfl, fun w' hS => Or.inl ⟨w', ?_, hS⟩⟩) ?_
    rotate_left
    · obtain ⟨-, c0', c1'⟩ := HB.two (t := 25) (g := w.heap.size + 1) (a := .int .u64 r0) (b := .int .u64 r1) hS (by simp)
      go_simp
      all_goals with_reducible rfl
    simp only [Act.put, List.setIfInBounds_toArray, List.set_cons_zero, List.set_cons_succ]
    refine det_take (v := ?_) (i := 10) (fuel := 4) (by simp; rfl) (by kernel_rfl) (by kernel_rfl) (by kernel_rfl) (Or.inl ⟨by rfl, fun w' hS => Or.inl ⟨w', ?_, hS⟩⟩) ?_
    rotate_left
    · obtain ⟨-, c0', c1'⟩ := HB.two (t := 25) (g := w.heap.size + 1 + 1) (a := .int .u64 d0) (b := .int .u64 d1) hS (by simp)
      go_simp
      all_goals with_reducible rfl
    simp only [Act.put, List.setIfInBounds_toArray, List.set_cons_zero, List.set_cons_succ]
    refine det_take (v := ?_) (i := 11) (fuel := 3) (by simp; rfl) (by kernel_rfl) (by kernel_rfl) (by kernel_rfl) (Or.inl ⟨by rfl, fun w' hS => Or.inr ⟨49, #[.agg #[.int .u64 r0, .int .u64 r1], .agg #[.int .u64 d0, .int .u64 d1]], w', ?_, ?_⟩⟩) ?_
    rotate_left
    · go_simp
      all_goals with_reducible rfl
    · exact (middle_v r0 r1 d0 d1 K _ hr0 hr1 hd0 hd1 HLE.out HK.out).mono fun e w2 ⟨_, hv, he, hb⟩ => ⟨by rw [he, hv], HB.below hS hb⟩
    simp only [Act.put, List.setIfInBounds_toArray, List.set_cons_zero, List.set_cons_succ]
    refine det_take (v := ?_) (i := 12) (fuel := 2) (by simp; rfl) (by kernel_rfl) (by kernel_rfl) (by kernel_rfl) (Or.inl ⟨by rfl, fun w' hS => Or.inl ⟨w', ?_, hS⟩⟩) ?_
    rotate_left
    · go_simp
      all_goals with_reducible rfl
    simp only [Act.put, List.setIfInBounds_toArray, List.set_cons_zero, List.set_cons_succ]
    refine det_take (v := ?_) (i := 13) (fuel := 1) (by simp; rfl) (by kernel_rfl) (by kernel_rfl) (by kernel_rfl) (Or.inl ⟨by rfl, fun w' hS => Or.inr ⟨48, #[.bool n, .bool false, .int .i64 K, .int .i64 mode], w', ?_, ?_⟩⟩) ?_
    rotate_left
    · go_simp
      all_goals with_reducible rfl
    · exact (farther_v n false true K mode _ HM.out H3.out HF.out).mono fun e w2 ⟨_, hv, he, hb⟩ => ⟨by rw [he, hv], HB.below hS hb⟩
    simp only [Act.put, List.setIfInBounds_toArray, List.set_cons_zero, List.set_cons_succ]
    refine det_take (v := ?_) (i := 14) (fuel := 0) (by simp; rfl) (by kernel_rfl) (by kernel_rfl) (by kernel_rfl) (Or.inl ⟨by rfl, fun w' hS => Or.inl ⟨w', ?_, hS⟩⟩) ?_
    rotate_left
    · go_simp
      all_goals with_reducible rfl
    simp only [Act.put, List.setIfInBounds_toArray, List.set_cons_zero, List.set_cons_succ]
    refine det_done (by kernel_rfl) (fun w' hS => ?_) _
    go_wp2_with fail
    refine (of_c 1 _).mono ?_
    rintro e w2 ⟨_, rfl, rfl, hb⟩
    replace hS := HB.below hS hb
    clear hb
    obtain ⟨lq, q0, q1⟩ := HB.two (t := 25) (g := w.heap.size + 1 + 1 + 1) (a := .int .u64 0) (b := .int .u64 0) hS (by simp)
    have Bz := HB.blk (g := w.heap.size + 1 + 1 + 1) (t := 25) (cs := #[.int .u64 0, .int .u64 0]) hS (by simp)
    have fz0 := Bz.frozen 0
    have fz1 := Bz.frozen 1
    clear Bz
    have HB1 := Lib.hid hS.1
    clear hS
    go_wp2
    exact bodyPost_ret (v := .agg #[.int .u64 1, .int .u64 0]) (by simp [results, Tryd.results34, go_sem, q0, q1]) rfl ⟨_, rfl, rfl, bel2 HB1.out hlg⟩
  · go_enter Tryd.func34, Tryd.ntmps34
    go_upto_region 1 with fail
    refine wp_region_det (S := fun w' => S4 w w.heap.size c0 c1 r0 r1 d0 d1 w') (by kernel_rfl) (HB.drew HW.out) ?_
    refine det_take (v := ?_) (i := 0) (fuel := 14) (by simp; rfl) (by kernel_rfl) (by kernel_rfl) (by kernel_rfl) (Or.inl ⟨by rfl, fun w' hS => Or.inl ⟨w', ?_, hS⟩⟩) ?_
    rotate_left
    · obtain ⟨-, c0', c1'⟩ := HB.two (t := 25) (g := w.heap.size + 1) (a := .int .u64 r0) (b := .int .u64 r1) hS (by simp)
      go_simp
      all_goals with_reducible rfl
    simp only [Act.put, List.setIfInBounds_toArray, List.set_cons_zero, List.set_cons_succ]
    refine det_take (v := ?_) (i := 1) (fuel := 13) (by simp; rfl) (by kernel_rfl) (by kernel_rfl) (by kernel_rfl) (Or.inl ⟨by rfl, fun w' hS => Or.inr ⟨12, #[.int .u64 0], w', ?_, ?_⟩⟩) ?_
    rotate_left
    · go_simp
      all_goals with_reducible rfl
    · exact (of_c 0 _).mono fun e w2 ⟨_, hv, he, hb⟩ => ⟨by rw [he, hv], HB.below hS hb⟩
    simp only [Act.put, List.setIfInBounds_toArray, List.set_cons_zero, List.set_cons_succ]
    refine det_take (v := ?_) (i := 2) (fuel := 12) (by simp; rfl) (by kernel_rfl) (by kernel_rfl) (by kernel_rfl) (Or.inl ⟨by rfl, fun w' hS => Or.inl ⟨w', ?_, hS⟩⟩) ?_
    rotate_left
    · go_simp
      all_goals with_reducible rfl
    simp only [Act.put, List.setIfInBounds_toArray, List.set_cons_zero, List.set_cons_succ]
    refine det_take (v := ?_) (i := 3) (fuel := 11) (by simp; rfl) (by kernel_rfl) (by kernel_rfl) (by kernel_rfl) (Or.inl ⟨by rfl, fun w' hS => Or.inl ⟨w', ?_, hS⟩⟩) ?_
    rotate_left
    · go_simp
      all_goals with_reducible rfl
    simp only [Act.put, List.setIfInBounds_toArray, List.set_cons_zero, List.set_cons_succ]
    refine det_take (v := undef) (i := 4) (fuel := 10) (by simp; rfl) (by kernel_rfl) (by kernel_rfl) (by kernel_rfl) (Or.inr ⟨by rfl, rfl⟩) ?_
    simp only [Act.put, List.setIfInBounds_toArray, List.set_cons_zero, List.set_cons_succ]
    refine det_take (v := undef) (i := 5) (fuel := 9) (by simp; rfl) (by kernel_rfl) (by kernel_rfl) (by kernel_rfl) (Or.inr ⟨by rfl, rfl⟩) ?_
    simp only [Act.put, List.setIfInBounds_toArray, List.set_cons_zero, List.set_cons_succ]
    refine det_take (v := undef) (i := 6) (fuel := 8) (by simp; rfl) (by kernel_rfl) (by kernel_rfl) (by kernel_rfl) (Or.inr ⟨by rfl, rfl⟩) ?_
    simp only [Act.put, List.setIfInBounds_toArray, List.set_cons_zero, List.set_cons_succ]
    refine det_take (v := undef) (i := 7) (fuel := 7) (by simp; rfl) (by kernel_rfl) (by kernel_rfl) (by kernel_rfl) (Or.inr ⟨by rfl, rfl⟩) ?_
    simp only [Act.put, List.setIfInBounds_toArray, List.set_cons_zero, List.set_cons_succ]
    refine det_take (v := undef) (i := 8) (fuel := 6) (by simp; rfl) (by kernel_rfl) (by kernel_rfl) (by kernel_rfl) (Or.inr ⟨by rfl, rfl⟩) ?_
    simp only [Act.put, List.setIfInBounds_toArray, List.set_cons_zero, List.set_cons_succ]
    refine det_take (v := undef) (i := 9) (fuel := 5) (by simp; rfl) (by kernel_rfl) (by kernel_rfl) (by kernel_rfl) (Or.inr ⟨by rfl, rfl⟩) ?_
    simp only [Act.put, List.setIfInBounds_toArray, List.set_cons_zero, List.set_cons_succ]
    refine det_take (v := undef) (i := 10) (fuel := 4) (by simp; rfl) (by kernel_rfl) (by kernel_rfl) (by kernel_rfl) (Or.inr ⟨by rfl, rfl⟩) ?_
    simp only [Act.put, List.setIfInBounds_toArray, List.set_cons_zero, List.set_cons_succ]
    refine det_take (v := undef) (i := 11) (fuel := 3) (by simp; rfl) (by kernel_rfl) (by kernel_rfl) (by kernel_rfl) (Or.inr ⟨by rfl, rfl⟩) ?_
    simp only [Act.put, List.setIfInBounds_toArray, List.set_cons_zero, List.set_cons_succ]
    refine det_take (v := undef) (i := 12) (fuel := 2) (by simp; rfl) (by kernel_rfl) (by kernel_rfl) (by kernel_rfl) (Or.inr ⟨by rfl, rfl⟩) ?_
    simp only [Act.put, List.setIfInBounds_toArray, List.set_cons_zero, List.set_cons_succ]
    refine det_take (v := undef) (i := 13) (fuel := 1) (by simp; rfl) (by kernel_rfl) (by kernel_rfl) (by kernel_rfl) (Or.inr ⟨by rfl, rfl⟩) ?_
    simp only [Act.put, List.setIfInBounds_toArray, List.set_cons_zero, List.set_cons_succ]
    refine det_take (v := ?_) (i := 14) (fuel := 0) (by simp; rfl) (by kernel_rfl) (by kernel_rfl) (by kernel_rfl) (Or.inl ⟨by rfl, fun w' hS => Or.inl ⟨w', ?_, hS⟩⟩) ?_
    rotate_left
    · go_simp
      all_goals with_reducible rfl
    simp only [Act.put, List.setIfInBounds_toArray, List.set_cons_zero, List.set_cons_succ]
    refine det_done (by kernel_rfl) (fun w' hS => ?_) _
    go_wp2_with fail
    refine (of_c 0 _).mono ?_
    rintro e w2 ⟨_, rfl, rfl, hb⟩
    replace hS := HB.below hS hb
    clear hb
    obtain ⟨lq, q0, q1⟩ := HB.two (t := 25) (g := w.heap.size + 1 + 1 + 1) (a := .int .u64 0) (b := .int .u64 0) hS (by simp)
    have Bz := HB.blk (g := w.heap.size + 1 + 1 + 1) (t := 25) (cs := #[.int .u64 0, .int .u64 0]) hS (by simp)
    have fz0 := Bz.frozen 0
    have fz1 := Bz.frozen 1
    clear Bz
    have HB1 := Lib.hid hS.1
    clear hS
    go_wp2
    exact bodyPost_ret (v := .agg #[.int .u64 0, .int .u64 0]) (by simp [results, Tryd.results34, go_sem, q0, q1]) rfl ⟨_, rfl, rfl, bel2 HB1.out hlg⟩
  · go_enter Tryd.func34, Tryd.ntmps34
    go_upto_region 1 with fail
    refine wp_region_det (S := fun w' => S4 w w.heap.size c0 c1 r0 r1 d0 d1 w') (by kernel_rfl) (HB.drew HW.out) ?_
    refine det_take (v := ?_) (i := 0) (fuel := 14) (by simp; rfl) (by kernel_rfl) (by kernel_rfl) (by kernel_rfl) (Or.inl ⟨by rfl, fun w' hS => Or.inl ⟨w', ?_, hS⟩⟩) ?_
    rotate_left
    · obtain ⟨-, c0', c1'⟩ := HB.two (t := 25) (g := w.heap.size + 1) (a := .int .u64 r0) (b := .int .u64 r1) hS (by simp)
      go_simp
      all_goals with_reducible rfl
    simp only [Act.put, List.setIfInBounds_toArray, List.set_cons_zero, List.set_cons_succ]
    refine det_take (v := ?_) (i := 1) (fuel := 13) (by simp; rfl) (by kernel_rfl) (by kernel_rfl) (by kernel_rfl) (Or.inl ⟨by rfl, fun w' hS => Or.inr ⟨12, #[.int .u64 0], w', ?_, ?_⟩⟩) ?_
    rotate_left
    · go_simp
      all_goals with_reducible rfl
    · exact (of_c 0 _).mono fun e w2 ⟨_, hv, he, hb⟩ => ⟨by rw [he, hv], HB.below hS hb⟩
    simp only [Act.put, List.setIfInBounds_toArray, List.set_cons_zero, List.set_cons_succ]
    refine det_take (v := ?_) (i := 2) (fuel := 12) (by simp; rfl) (by kernel_rfl) (by kernel_rfl) (by kernel_rfl) (Or.inl ⟨by rfl, fun w' hS => Or.inl ⟨w', ?_, hS⟩⟩) ?_
    rotate_left
    · go_simp
      all_goals with_reducible rfl
    simp only [Act.put, List.setIfInBounds_toArray, List.set_cons_zero, List.set_cons_succ]
    refine det_take (v := ?_) (i := 3) (fuel := 11) (by simp; rfl) (by kernel_rfl) (by kernel_rfl) (by kernel_rfl) (Or.inl ⟨by rfl, fun w' hS => Or.inl ⟨w', ?_, hS⟩⟩) ?_
    rotate_left
    · go_simp
      all_goals with_reducible rfl
    simp only [Act.put, List.setIfInBounds_toArray, List.set_cons_zero, List.set_cons_succ]
    refine det_take (v := undef) (i := 4) (fuel := 10) (by simp; rfl) (by kernel_rfl) (by kernel_rfl) (by kernel_rfl) (Or.inr ⟨by rfl, rfl⟩) ?_
    simp only [Act.put, List.setIfInBounds_toArray, List.set_cons_zero, List.set_cons_succ]
    refine det_take (v := undef) (i := 5) (fuel := 9) (by simp; rfl) (by kernel_rfl) (by kernel_rfl) (by kernel_rfl) (Or.inr ⟨by rfl, rfl⟩) ?_
    simp only [Act.put, List.setIfInBounds_toArray, List.set_cons_zero, List.set_cons_succ]
    refine det_take (v := undef) (i := 6) (fuel := 8) (by simp; rfl) (by kernel_rfl) (by kernel_rfl) (by kernel_rfl) (Or.inr ⟨by rfl, rfl⟩) ?_
    simp only [Act.put, List.setIfInBounds_toArray, List.set_cons_zero, List.set_cons_succ]
    refine det_take (v := undef) (i := 7) (fuel := 7) (by simp; rfl) (by kernel_rfl) (by kernel_rfl) (by kernel_rfl) (Or.inr ⟨by rfl, rfl⟩) ?_
    simp only [Act.put, List.setIfInBounds_toArray, List.set_cons_zero, List.set_cons_succ]
    refine det_take (v := undef) (i := 8) (fuel := 6) (by simp; rfl) (by kernel_rfl) (by kernel_rfl) (by kernel_rfl) (Or.inr ⟨by rfl, rfl⟩) ?_
    simp only [Act.put, List.setIfInBounds_toArray, List.set_cons_zero, List.set_cons_succ]
    refine det_take (v := undef) (i := 9) (fuel := 5) (by simp; rfl) (by kernel_rfl) (by kernel_rfl) (by kernel_rfl) (Or.inr ⟨by rfl, rfl⟩) ?_
    simp only [Act.put, List.setIfInBounds_toArray, List.set_cons_zero, List.set_cons_succ]
    refine det_take (v := undef) (i := 10) (fuel := 4) (by simp; rfl) (by kernel_rfl) (by kernel_rfl) (by kernel_rfl) (Or.inr ⟨by rfl, rfl⟩) ?_
    simp only [Act.put, List.setIfInBounds_toArray, List.set_cons_zero, List.set_cons_succ]
    refine det_take (v := undef) (i := 11) (fuel := 3) (by simp; rfl) (by kernel_rfl) (by kernel_rfl) (by kernel_rfl) (Or.inr ⟨by rfl, rfl⟩) ?_
    simp only [Act.put, List.setIfInBounds_toArray, List.set_cons_zero, List.set_cons_succ]
    refine det_take (v := undef) (i := 12) (fuel := 2) (by simp; rfl) (by kernel_rfl) (by kernel_rfl) (by kernel_rfl) (Or.inr ⟨by rfl, rfl⟩) ?_
    simp only [Act.put, List.setIfInBounds_toArray, List.set_cons_zero, List.set_cons_succ]
    refine det_take (v := undef) (i := 13) (fuel := 1) (by simp; rfl) (by kernel_rfl) (by kernel_rfl) (by kernel_rfl) (Or.inr ⟨by rfl, rfl⟩) ?_
    simp only [Act.put, List.setIfInBounds_toArray, List.set_cons_zero, List.set_cons_succ]
    refine det_take (v := ?_) (i := 14) (fuel := 0) (by simp; rfl) (by kernel_rfl) (by kernel_rfl) (by kernel_rfl) (Or.inl ⟨by rfl, fun w' hS => Or.inl ⟨w', ?_, hS⟩⟩) ?_
    rotate_left
    · go_simp
      all_goals with_reducible rfl
    simp only [Act.put, List.setIfInBounds_toArray, List.set_cons_zero, List.set_cons_succ]
    refine det_done (by kernel_rfl) (fun w' hS => ?_) _
    go_wp2_with fail
    refine (of_c 0 _).mono ?_
    rintro e w2 ⟨_, rfl, rfl, hb⟩
    replace hS := HB.below hS hb
    clear hb
    obtain ⟨lq, q0, q1⟩ := HB.two (t := 25) (g := w.heap.size + 1 + 1 + 1) (a := .int .u64 0) (b := .int .u64 0) hS (by simp)
    have Bz := HB.blk (g := w.heap.size + 1 + 1 + 1) (t := 25) (cs := #[.int .u64 0, .int .u64 0]) hS (by simp)
    have fz0 := Bz.frozen 0
    have fz1 := Bz.frozen 1
    clear Bz
    have HB1 := Lib.hid hS.1
    clear hS
    go_wp2
    exact bodyPost_ret (v := .agg #[.int .u64 0, .int .u64 0]) (by simp [results, Tryd.results34, go_sem, q0, q1]) rfl ⟨_, rfl, rfl, bel2 HB1.out hlg⟩
end Go.Proofs.YtkaflkofffgndaaDoor

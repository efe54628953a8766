/- For every input 'LimbShifts' returns true and leaves its arguments as they were. No condition. -/
import Derived.Test.YtipkchgibomgkaaRows
import Derived.WalkKit
import Derived.ProofKit
import Derived.OpenShut
import Derived.Test.YtipkchgibomgkaaShiftA
import Derived.Test.YtipkchgibomgkaaPost
namespace Go.Proofs.Ytipkchgibomgkaa.limbShifts
open Go.ChangeShapes Go.WideShapes Go.ChangeAt Go.RowKit
set_option linter.unusedVariables false

theorem own : ownKnob Try.prog.godebug = none := by kernel_rfl

theorem bits_i (a b c d N : Int) (n : Nat) (w : World) (ha : U64 a) (hb : U64 b) (hc : U64 c) (hd : U64 d) (h : BitsN (v4 a b c d) n) (e : (n : Int) = N) :
    Calls Try.prog 18 #[.agg #[.int .u64 a, .int .u64 b, .int .u64 c, .int .u64 d]] w (Ret w (IsInt N)) := by
  rw [← e]; exact bits_u a b c d n w ha hb hc hd h
theorem right_u (a b c d k l0 l1 l2 l3 : Int) (w : World) (ha : U64 a) (hb : U64 b) (hc : U64 c) (hd : U64 d) (h : RightR a b c d k l0 l1 l2 l3) :
    Calls Try.prog 17 #[.agg #[.int .u64 a, .int .u64 b, .int .u64 c, .int .u64 d], .int .i64 k] w (Ret w (· = .agg #[.int .u64 l0, .int .u64 l1, .int .u64 l2, .int .u64 l3])) :=
  (right_c a b c d k w ha hb hc hd).mono fun _ _ ⟨_, ⟨x, y, z, u, hm, hv⟩, he, hw⟩ => by
    obtain ⟨h0, h1, h2, h3, e⟩ := h
    obtain ⟨g0, g1, g2, g3, f⟩ := hm
    obtain ⟨rfl, rfl, rfl, rfl⟩ := v4_inj h0 h1 h2 h3 g0 g1 g2 g3 (e.trans f.symm)
    exact ⟨_, hv, he, hw⟩
theorem right_w {x0 x1 k l0 l1 l2 l3 : Int} (h0 : U64 x0) (h1 : U64 x1) (hk0 : 0 ≤ k) (hk : k ≤ 128) (h : LeftR x0 x1 0 0 k l0 l1 l2 l3) : RightR l0 l1 l2 l3 k x0 x1 0 0 := by
  have e := left_val h0 h1 hk0 hk h
  refine ⟨h0, h1, u64_0, u64_0, ?_⟩
  rw [e, clamp_nat hk0 (by omega), Nat.mul_div_cancel _ (Nat.pow_pos (by decide)), v4_two x0 x1 h0 h1]
theorem neSize {w0 w : World} {bs : List (Nat × TypeId × Array Value)} (h : HB w0 bs w) : ∀ b ∈ bs, b.1 ≠ w.heap.size := fun b hb => Nat.ne_of_lt (h.2 b hb).lt
theorem mk5 {w0 w : World} {gl gw gx : Nat} {x0 x1 l0 l1 l2 l3 : Int} (h : HB w0 [(gl, 27, #[.int .u64 l0, .int .u64 l1, .int .u64 l2, .int .u64 l3]), (gw, 27, #[.int .u64 x0, .int .u64 x1, .int .u64 0, .int .u64 0]), (gx, 23, #[.int .u64 x0, .int .u64 x1])] w) :
    HB w0 [(gl, 27, #[.int .u64 l0, .int .u64 l1, .int .u64 l2, .int .u64 l3]), (gw, 27, #[.int .u64 x0, .int .u64 x1, .int .u64 0, .int .u64 0]), (gx, 23, #[.int .u64 x0, .int .u64 x1])] w ∧ (w.cell? ⟨gl, 0, none⟩ = some (.int .u64 l0) ∧ w.cell? ⟨gl, 1, none⟩ = some (.int .u64 l1) ∧ w.cell? ⟨gl, 2, none⟩ = some (.int .u64 l2) ∧ w.cell? ⟨gl, 3, none⟩ = some (.int .u64 l3)) ∧ (w.cell? ⟨gw, 0, none⟩ = some (.int .u64 x0) ∧ w.cell? ⟨gw, 1, none⟩ = some (.int .u64 x1) ∧ w.cell? ⟨gw, 2, none⟩ = some (.int .u64 0) ∧ w.cell? ⟨gw, 3, none⟩ = some (.int .u64 0)) ∧ (w.cell? ⟨gx, 0, none⟩ = some (.int .u64 x0) ∧ w.cell? ⟨gx, 1, none⟩ = some (.int .u64 x1)) :=
  ⟨h, (HB.four (t := 27) h (by simp)).2, (HB.four (t := 27) h (by simp)).2, (HB.two (t := 23) h (by simp)).2⟩
theorem mk7 {w0 w : World} {gl gw gx : Nat} {x0 x1 l0 l1 l2 l3 : Int} (h : HB w0 [(gl, 27, #[.int .u64 l0, .int .u64 l1, .int .u64 l2, .int .u64 l3]), (gw, 27, #[.int .u64 x0, .int .u64 x1, .int .u64 0, .int .u64 0]), (gx, 23, #[.int .u64 x0, .int .u64 x1])] w) :
    HB w0 [(gl, 27, #[.int .u64 l0, .int .u64 l1, .int .u64 l2, .int .u64 l3]), (gw, 27, #[.int .u64 x0, .int .u64 x1, .int .u64 0, .int .u64 0]), (gx, 23, #[.int .u64 x0, .int .u64 x1])] w ∧ (w.cell? ⟨gx, 0, none⟩ = some (.int .u64 x0) ∧ w.cell? ⟨gx, 1, none⟩ = some (.int .u64 x1)) :=
  ⟨h, (HB.two (t := 23) h (by simp)).2⟩
theorem mk8 {w0 w : World} {gl gw gx gt : Nat} {x0 x1 l0 l1 l2 l3 t0 t1 t2 t3 : Int} (h : HB w0 [(gt, 27, #[.int .u64 t0, .int .u64 t1, .int .u64 t2, .int .u64 t3]), (gl, 27, #[.int .u64 l0, .int .u64 l1, .int .u64 l2, .int .u64 l3]), (gw, 27, #[.int .u64 x0, .int .u64 x1, .int .u64 0, .int .u64 0]), (gx, 23, #[.int .u64 x0, .int .u64 x1])] w) :
    HB w0 [(gt, 27, #[.int .u64 t0, .int .u64 t1, .int .u64 t2, .int .u64 t3]), (gl, 27, #[.int .u64 l0, .int .u64 l1, .int .u64 l2, .int .u64 l3]), (gw, 27, #[.int .u64 x0, .int .u64 x1, .int .u64 0, .int .u64 0]), (gx, 23, #[.int .u64 x0, .int .u64 x1])] w ∧ (w.cell? ⟨gw, 0, none⟩ = some (.int .u64 x0) ∧ w.cell? ⟨gw, 1, none⟩ = some (.int .u64 x1) ∧ w.cell? ⟨gw, 2, none⟩ = some (.int .u64 0) ∧ w.cell? ⟨gw, 3, none⟩ = some (.int .u64 0)) :=
  ⟨h, (HB.four (t := 27) h (by simp)).2⟩
theorem mk9 {w0 w : World} {gl gw gx gt go : Nat} {x0 x1 l0 l1 l2 l3 t0 t1 t2 t3 o0 o1 o2 o3 : Int} (h : HB w0 [(go, 27, #[.int .u64 o0, .int .u64 o1, .int .u64 o2, .int .u64 o3]), (gt, 27, #[.int .u64 t0, .int .u64 t1, .int .u64 t2, .int .u64 t3]), (gl, 27, #[.int .u64 l0, .int .u64 l1, .int .u64 l2, .int .u64 l3]), (gw, 27, #[.int .u64 x0, .int .u64 x1, .int .u64 0, .int .u64 0]), (gx, 23, #[.int .u64 x0, .int .u64 x1])] w) :
    HB w0 [(go, 27, #[.int .u64 o0, .int .u64 o1, .int .u64 o2, .int .u64 o3]), (gt, 27, #[.int .u64 t0, .int .u64 t1, .int .u64 t2, .int .u64 t3]), (gl, 27, #[.int .u64 l0, .int .u64 l1, .int .u64 l2, .int .u64 l3]), (gw, 27, #[.int .u64 x0, .int .u64 x1, .int .u64 0, .int .u64 0]), (gx, 23, #[.int .u64 x0, .int .u64 x1])] w ∧ (w.cell? ⟨gw, 0, none⟩ = some (.int .u64 x0) ∧ w.cell? ⟨gw, 1, none⟩ = some (.int .u64 x1) ∧ w.cell? ⟨gw, 2, none⟩ = some (.int .u64 0) ∧ w.cell? ⟨gw, 3, none⟩ = some (.int .u64 0)) ∧ (w.cell? ⟨gt, 0, none⟩ = some (.int .u64 t0) ∧ w.cell? ⟨gt, 1, none⟩ = some (.int .u64 t1) ∧ w.cell? ⟨gt, 2, none⟩ = some (.int .u64 t2) ∧ w.cell? ⟨gt, 3, none⟩ = some (.int .u64 t3)) ∧ (w.cell? ⟨go, 0, none⟩ = some (.int .u64 o0) ∧ w.cell? ⟨go, 1, none⟩ = some (.int .u64 o1) ∧ w.cell? ⟨go, 2, none⟩ = some (.int .u64 o2) ∧ w.cell? ⟨go, 3, none⟩ = some (.int .u64 o3)) :=
  ⟨h, (HB.four (t := 27) h (by simp)).2, (HB.four (t := 27) h (by simp)).2, (HB.four (t := 27) h (by simp)).2⟩
theorem pos_nz {x0 x1 : Int} (h0 : U64 x0) (h1 : U64 x1) (h : eqW2 x0 x1 0 0 = false) : 0 < v2 x0 x1 := by
  rcases Nat.eq_zero_or_pos (v2 x0 x1) with e | e
  · rw [eqW2_yes ((v2_zero h0 h1).1 e)] at h
    cases h
  · exact e
set_option maxRecDepth 100000 in
set_option maxHeartbeats 6400000 in
theorem walk (a0 : Int) (a1 : Int) (a2 : Int) (a3 : Int) (w0 : (Lit.int .u64 a0).wf = true) (w1 : (Lit.int .u64 a1).wf = true) (w2 : (Lit.int .i64 a2).wf = true) (w3 : (Lit.int .i64 a3).wf = true) (w : World) :
    Calls Try.prog 6 #[.int .u64 a0, .int .u64 a1, .int .i64 a2, .int .i64 a3] w fun e w' => e = .returned (.bool true) ∧ Below w.heap.size w w' := by
  have u0 := u64_of_wf w0
  have u1 := u64_of_wf w1
  clear w0 w1 w2 w3
  go_enter Try.func6, Try.ntmps6
  go_wp2_with fail
  refine (words_l a0 a1 a2 _ u0 u1).mono ?_
  rintro e wa ⟨_, ⟨x0, x1, ⟨hx0, hx1⟩, rfl⟩, rfl, hb⟩
  have W := HB.start hb
  clear hb
  go_wp2_with fail
  refine (wide_c x0 x1 _).mono ?_
  rintro e ww ⟨_, rfl, rfl, hb⟩
  replace W := (W.push #[.int .u64 x0, .int .u64 x1] 23).below hb
  clear hb
  go_wp2_with fail
  refine (pick_c a3 129 _ (by omega) (by omega)).mono ?_
  rintro e wp ⟨_, ⟨k, ⟨hk0, hk1⟩, rfl⟩, rfl, rfl⟩
  have uz := u64_0
  have hk2 : k ≤ 128 := by omega
  replace W := W.push #[.int .u64 x0, .int .u64 x1, .int .u64 0, .int .u64 0] 27
  go_wp2_with fail
  refine (left_c x0 x1 0 0 k _ hx0 hx1 uz uz).mono ?_
  rintro e wl ⟨_, ⟨l0, l1, l2, l3, HL, rfl⟩, rfl, hb⟩
  replace W := (W.below hb).push #[.int .u64 l0, .int .u64 l1, .int .u64 l2, .int .u64 l3] 27
  clear hb
  have hl0 := HL.1
  have hl1 := HL.2.1
  have hl2 := HL.2.2.1
  have hl3 := HL.2.2.2.1
  obtain ⟨n, hn2, hn, hnz0⟩ := bitsN_ex (v2 x0 x1) (v2_lt hx0 hx1)
  have hn4 : BitsN (v4 x0 x1 0 0) n := by rw [v4_two x0 x1 hx0 hx1]; exact hn
  obtain ⟨N, hN⟩ : ∃ N : Int, (n : Int) = N := ⟨_, rfl⟩
  have hN0 : 0 ≤ N := by omega
  have hN1 : N ≤ 128 := by omega
  have HNn := Lib.hid hN
  have HN0 := Lib.hid hnz0
  clear hN hnz0
  have rb : ∀ c0 c1 c2 c3, RightR l0 l1 l2 l3 k c0 c1 c2 c3 → eqW4 c0 c1 c2 c3 x0 x1 0 0 = true := fun _ _ _ _ g => sh_back hx0 hx1 hk0 hk2 HL g
  obtain ⟨β, hβ⟩ : ∃ β, eqW2 x0 x1 0 0 = β := ⟨_, rfl⟩
  go_upto_region 5 with fail
  go_cut [43] (fun s wx => s = .bool false ∧ HB w [(wl.heap.size, 27, #[.int .u64 l0, .int .u64 l1, .int .u64 l2, .int .u64 l3]), (ww.heap.size, 27, #[.int .u64 x0, .int .u64 x1, .int .u64 0, .int .u64 0]), (wa.heap.size, 23, #[.int .u64 x0, .int .u64 x1])] wx)
  case first =>
    cases β
    · have hpos : 0 < v2 x0 x1 := pos_nz hx0 hx1 hβ
      have hbl := sh_bits hx0 hx1 hk0 hk2 HL hpos hn
      obtain ⟨M, hM⟩ : ∃ M : Int, ((k.toNat + n : Nat) : Int) = M := ⟨_, rfl⟩
      have HM := Lib.hid hM
      have hq : (M != N + k) = false := by have := HNn.out; simp; omega
      have hwr : IntKind.i64.wrap (N + k) = N + k := IntWalk.i64_in _ (by omega)
      clear hM hpos
      go_region_held3 (fun w' => HB w [(wl.heap.size, 27, #[.int .u64 l0, .int .u64 l1, .int .u64 l2, .int .u64 l3]), (ww.heap.size, 27, #[.int .u64 x0, .int .u64 x1, .int .u64 0, .int .u64 0]), (wa.heap.size, 23, #[.int .u64 x0, .int .u64 x1])] w' ∧ (w'.cell? ⟨wl.heap.size, 0, none⟩ = some (.int .u64 l0) ∧ w'.cell? ⟨wl.heap.size, 1, none⟩ = some (.int .u64 l1) ∧ w'.cell? ⟨wl.heap.size, 2, none⟩ = some (.int .u64 l2) ∧ w'.cell? ⟨wl.heap.size, 3, none⟩ = some (.int .u64 l3)) ∧ (w'.cell? ⟨ww.heap.size, 0, none⟩ = some (.int .u64 x0) ∧ w'.cell? ⟨ww.heap.size, 1, none⟩ = some (.int .u64 x1) ∧ w'.cell? ⟨ww.heap.size, 2, none⟩ = some (.int .u64 0) ∧ w'.cell? ⟨ww.heap.size, 3, none⟩ = some (.int .u64 0)) ∧ (w'.cell? ⟨wa.heap.size, 0, none⟩ = some (.int .u64 x0) ∧ w'.cell? ⟨wa.heap.size, 1, none⟩ = some (.int .u64 x1))) (first | exact mk5 (HB.drew W) | exact mk5 (keepB hbx (by assumption))) (first | (go_at_call 17; refine (right_c _ _ _ _ _ _ (by assumption) (by assumption) (by assumption) (by assumption)).mono ?_; rintro e wx ⟨_, ⟨c0, c1, c2, c3, HR, rfl⟩, rfl, hbx⟩) | (go_at_call 18; (with_reducible refine (bits_i l0 l1 l2 l3 M (k.toNat + n) _ hl0 hl1 hl2 hl3 hbl HM.out).mono ?_); rintro e wx ⟨_, rfl, rfl, hbx⟩) | (go_at_call 18; (with_reducible refine (bits_i x0 x1 0 0 N n _ hx0 hx1 uz uz hn4 HNn.out).mono ?_); rintro e wx ⟨_, rfl, rfl, hbx⟩))
      all_goals
        go_wp2_with fail
        go_meet
        case rel => exact ⟨rfl, And.left (by assumption)⟩
    · have HRW := right_w hx0 hx1 hk0 hk2 HL
      have qw : eqW4 x0 x1 0 0 x0 x1 0 0 = true := eqW4_yes ⟨rfl, rfl, rfl, rfl⟩
      refine wp_region_det (S := (fun w' => HB w [(wl.heap.size, 27, #[.int .u64 l0, .int .u64 l1, .int .u64 l2, .int .u64 l3]), (ww.heap.size, 27, #[.int .u64 x0, .int .u64 x1, .int .u64 0, .int .u64 0]), (wa.heap.size, 23, #[.int .u64 x0, .int .u64 x1])] w' ∧ (w'.cell? ⟨wl.heap.size, 0, none⟩ = some (.int .u64 l0) ∧ w'.cell? ⟨wl.heap.size, 1, none⟩ = some (.int .u64 l1) ∧ w'.cell? ⟨wl.heap.size, 2, none⟩ = some (.int .u64 l2) ∧ w'.cell? ⟨wl.heap.size, 3, none⟩ = some (.int .u64 l3)) ∧ (w'.cell? ⟨ww.heap.size, 0, none⟩ = some (.int .u64 x0) ∧ w'.cell? ⟨ww.heap.size, 1, none⟩ = some (.int .u64 x1) ∧ w'.cell? ⟨ww.heap.size, 2, none⟩ = some (.int .u64 0) ∧ w'.cell? ⟨ww.heap.size, 3, none⟩ = some (.int .u64 0)) ∧ (w'.cell? ⟨wa.heap.size, 0, none⟩ = some (.int .u64 x0) ∧ w'.cell? ⟨wa.heap.size, 1, none⟩ = some (.int .u64 x1)))) (by kernel_rfl) (mk5 (HB.drew W)) ?_
      refine det_take (v := ?_) (i := 0) (fuel := 18) (by simp; rfl) (by kernel_rfl) (by kernel_rfl) (by kernel_rfl) (Or.inl ⟨by rfl, fun w' hS => Or.inl ⟨w', ?_, hS⟩⟩) ?_
      rotate_left
      · obtain ⟨-, ⟨c0, c1, c2, c3⟩, ⟨d0, d1, d2, d3⟩, ⟨e0, e1⟩⟩ := hS
        go_simp
        all_goals with_reducible rfl
      simp only [Act.put, List.setIfInBounds_toArray, List.set_cons_zero, List.set_cons_succ]
      refine det_take (v := ?_) (i := 1) (fuel := 17) (by simp; rfl) (by kernel_rfl) (by kernel_rfl) (by kernel_rfl) (Or.inl ⟨by rfl, fun w' hS => Or.inl ⟨w', ?_, hS⟩⟩) ?_
      rotate_left
      · obtain ⟨-, ⟨c0, c1, c2, c3⟩, ⟨d0, d1, d2, d3⟩, ⟨e0, e1⟩⟩ := hS
        go_simp
        all_goals with_reducible rfl
      simp only [Act.put, List.setIfInBounds_toArray, List.set_cons_zero, List.set_cons_succ]
      refine det_take (v := ?_) (i := 2) (fuel := 16) (by simp; rfl) (by kernel_rfl) (by kernel_rfl) (by kernel_rfl) (Or.inl ⟨by rfl, fun w' hS => Or.inr ⟨17, #[.agg #[.int .u64 l0, .int .u64 l1, .int .u64 l2, .int .u64 l3], .int .i64 k], w', ?_, ?_⟩⟩) ?_
      rotate_left
      · go_simp
        all_goals with_reducible rfl
      · exact (right_u l0 l1 l2 l3 k x0 x1 0 0 _ hl0 hl1 hl2 hl3 HRW).mono fun e w2 ⟨_, hv, he, hb⟩ => ⟨by rw [he, hv], mk5 (HB.below hS.1 hb)⟩
      simp only [Act.put, List.setIfInBounds_toArray, List.set_cons_zero, List.set_cons_succ]
      refine det_take (v := ?_) (i := 3) (fuel := 15) (by simp; rfl) (by kernel_rfl) (by kernel_rfl) (by kernel_rfl) (Or.inl ⟨by rfl, fun w' hS => Or.inl ⟨w', ?_, hS⟩⟩) ?_
      rotate_left
      · obtain ⟨-, ⟨c0, c1, c2, c3⟩, ⟨d0, d1, d2, d3⟩, ⟨e0, e1⟩⟩ := hS
        go_simp
        all_goals with_reducible rfl
      simp only [Act.put, List.setIfInBounds_toArray, List.set_cons_zero, List.set_cons_succ]
      refine det_take (v := ?_) (i := 4) (fuel := 14) (by simp; rfl) (by kernel_rfl) (by kernel_rfl) (by kernel_rfl) (Or.inl ⟨by rfl, fun w' hS => Or.inl ⟨w', ?_, hS⟩⟩) ?_
      rotate_left
      · obtain ⟨-, ⟨c0, c1, c2, c3⟩, ⟨d0, d1, d2, d3⟩, ⟨e0, e1⟩⟩ := hS
        go_simp
        all_goals with_reducible rfl
      simp only [Act.put, List.setIfInBounds_toArray, List.set_cons_zero, List.set_cons_succ]
      refine det_take (v := ?_) (i := 5) (fuel := 13) (by simp; rfl) (by kernel_rfl) (by kernel_rfl) (by kernel_rfl) (Or.inl ⟨by rfl, fun w' hS => Or.inl ⟨w', ?_, hS⟩⟩) ?_
      rotate_left
      · obtain ⟨-, ⟨c0, c1, c2, c3⟩, ⟨d0, d1, d2, d3⟩, ⟨e0, e1⟩⟩ := hS
        go_simp
        all_goals with_reducible rfl
      simp only [Act.put, List.setIfInBounds_toArray, List.set_cons_zero, List.set_cons_succ]
      refine det_take (v := ?_) (i := 6) (fuel := 12) (by simp; rfl) (by kernel_rfl) (by kernel_rfl) (by kernel_rfl) (Or.inl ⟨by rfl, fun w' hS => Or.inl ⟨w', ?_, hS⟩⟩) ?_
      rotate_left
      · obtain ⟨-, ⟨c0, c1, c2, c3⟩, ⟨d0, d1, d2, d3⟩, ⟨e0, e1⟩⟩ := hS
        go_simp
        all_goals with_reducible rfl
      simp only [Act.put, List.setIfInBounds_toArray, List.set_cons_zero, List.set_cons_succ]
      refine det_take (v := ?_) (i := 7) (fuel := 11) (by simp; rfl) (by kernel_rfl) (by kernel_rfl) (by kernel_rfl) (Or.inl ⟨by rfl, fun w' hS => Or.inl ⟨w', ?_, hS⟩⟩) ?_
      rotate_left
      · obtain ⟨-, ⟨c0, c1, c2, c3⟩, ⟨d0, d1, d2, d3⟩, ⟨e0, e1⟩⟩ := hS
        go_simp
        all_goals with_reducible rfl
      simp only [Act.put, List.setIfInBounds_toArray, List.set_cons_zero, List.set_cons_succ]
      refine det_take (v := ?_) (i := 8) (fuel := 10) (by simp; rfl) (by kernel_rfl) (by kernel_rfl) (by kernel_rfl) (Or.inl ⟨by rfl, fun w' hS => Or.inl ⟨w', ?_, hS⟩⟩) ?_
      rotate_left
      · obtain ⟨-, ⟨c0, c1, c2, c3⟩, ⟨d0, d1, d2, d3⟩, ⟨e0, e1⟩⟩ := hS
        go_simp
        all_goals with_reducible rfl
      simp only [Act.put, List.setIfInBounds_toArray, List.set_cons_zero, List.set_cons_succ]
      refine det_take (v := ?_) (i := 9) (fuel := 9) (by simp; rfl) (by kernel_rfl) (by kernel_rfl) (by kernel_rfl) (Or.inl ⟨by rfl, fun w' hS => Or.inl ⟨w', ?_, hS⟩⟩) ?_
      rotate_left
      · obtain ⟨-, ⟨c0, c1, c2, c3⟩, ⟨d0, d1, d2, d3⟩, ⟨e0, e1⟩⟩ := hS
        go_simp
        all_goals with_reducible rfl
      simp only [Act.put, List.setIfInBounds_toArray, List.set_cons_zero, List.set_cons_succ]
      refine det_take (v := undef) (i := 10) (fuel := 8) (by simp; rfl) (by kernel_rfl) (by kernel_rfl) (by kernel_rfl) (Or.inr ⟨by rfl, rfl⟩) ?_
      simp only [Act.put, List.setIfInBounds_toArray, List.set_cons_zero, List.set_cons_succ]
      refine det_take (v := undef) (i := 11) (fuel := 7) (by simp; rfl) (by kernel_rfl) (by kernel_rfl) (by kernel_rfl) (Or.inr ⟨by rfl, rfl⟩) ?_
      simp only [Act.put, List.setIfInBounds_toArray, List.set_cons_zero, List.set_cons_succ]
      refine det_take (v := undef) (i := 12) (fuel := 6) (by simp; rfl) (by kernel_rfl) (by kernel_rfl) (by kernel_rfl) (Or.inr ⟨by rfl, rfl⟩) ?_
      simp only [Act.put, List.setIfInBounds_toArray, List.set_cons_zero, List.set_cons_succ]
      refine det_take (v := undef) (i := 13) (fuel := 5) (by simp; rfl) (by kernel_rfl) (by kernel_rfl) (by kernel_rfl) (Or.inr ⟨by rfl, rfl⟩) ?_
      simp only [Act.put, List.setIfInBounds_toArray, List.set_cons_zero, List.set_cons_succ]
      refine det_take (v := undef) (i := 14) (fuel := 4) (by simp; rfl) (by kernel_rfl) (by kernel_rfl) (by kernel_rfl) (Or.inr ⟨by rfl, rfl⟩) ?_
      simp only [Act.put, List.setIfInBounds_toArray, List.set_cons_zero, List.set_cons_succ]
      refine det_take (v := undef) (i := 15) (fuel := 3) (by simp; rfl) (by kernel_rfl) (by kernel_rfl) (by kernel_rfl) (Or.inr ⟨by rfl, rfl⟩) ?_
      simp only [Act.put, List.setIfInBounds_toArray, List.set_cons_zero, List.set_cons_succ]
      refine det_take (v := undef) (i := 16) (fuel := 2) (by simp; rfl) (by kernel_rfl) (by kernel_rfl) (by kernel_rfl) (Or.inr ⟨by rfl, rfl⟩) ?_
      simp only [Act.put, List.setIfInBounds_toArray, List.set_cons_zero, List.set_cons_succ]
      refine det_take (v := ?_) (i := 17) (fuel := 1) (by simp; rfl) (by kernel_rfl) (by kernel_rfl) (by kernel_rfl) (Or.inl ⟨by rfl, fun w' hS => Or.inl ⟨w', ?_, hS⟩⟩) ?_
      rotate_left
      · obtain ⟨-, ⟨c0, c1, c2, c3⟩, ⟨d0, d1, d2, d3⟩, ⟨e0, e1⟩⟩ := hS
        go_simp
        all_goals with_reducible rfl
      simp only [Act.put, List.setIfInBounds_toArray, List.set_cons_zero, List.set_cons_succ]
      refine det_take (v := ?_) (i := 18) (fuel := 0) (by simp; rfl) (by kernel_rfl) (by kernel_rfl) (by kernel_rfl) (Or.inl ⟨by rfl, fun w' hS => Or.inl ⟨w', ?_, hS⟩⟩) ?_
      rotate_left
      · obtain ⟨-, ⟨c0, c1, c2, c3⟩, ⟨d0, d1, d2, d3⟩, ⟨e0, e1⟩⟩ := hS
        go_simp
        all_goals with_reducible rfl
      simp only [Act.put, List.setIfInBounds_toArray, List.set_cons_zero, List.set_cons_succ]
      refine det_done (by kernel_rfl) (fun w' hS => ?_) _
      go_wp2_with fail
      go_meet
      case rel => exact ⟨rfl, hS.1⟩
  case rest =>
    obtain ⟨rfl, W⟩ := hcut
    clear rb hβ
    have u2 := u64_2
    have uo := u64_1
    have hgz := W.1.size
    have hnz := neSize W
    go_upto_region 7 with fail
    go_cut [12] (fun s wx => ∃ (gt : Nat) (t0 t1 t2 t3 : Int), s = .pointer (some ⟨gt, 0, none⟩) ∧ MulR x0 x1 2 0 t0 t1 t2 t3 ∧ HB w [(gt, 27, #[.int .u64 t0, .int .u64 t1, .int .u64 t2, .int .u64 t3]), (wl.heap.size, 27, #[.int .u64 l0, .int .u64 l1, .int .u64 l2, .int .u64 l3]), (ww.heap.size, 27, #[.int .u64 x0, .int .u64 x1, .int .u64 0, .int .u64 0]), (wa.heap.size, 23, #[.int .u64 x0, .int .u64 x1])] wx)
    case first =>
      go_region_held3 (fun w' => HB w [(wl.heap.size, 27, #[.int .u64 l0, .int .u64 l1, .int .u64 l2, .int .u64 l3]), (ww.heap.size, 27, #[.int .u64 x0, .int .u64 x1, .int .u64 0, .int .u64 0]), (wa.heap.size, 23, #[.int .u64 x0, .int .u64 x1])] w' ∧ (w'.cell? ⟨wa.heap.size, 0, none⟩ = some (.int .u64 x0) ∧ w'.cell? ⟨wa.heap.size, 1, none⟩ = some (.int .u64 x1))) (first | exact mk7 (HB.drew W) | exact mk7 HWx | exact mk7 (HB.alloc HWx _) | exact mk7 (keepB hbx (by assumption)) | exact mk7 (keepBA (by assumption) _) | exact mk7 (HB.sub (HB.set4 HWx BZ hgz hnz) (by simp))) (first | (go_at_call 27; refine (mul_c _ _ _ _ _ (by assumption) (by assumption) (by assumption) (by assumption)).mono ?_; rintro e wx ⟨_, ⟨c0, c1, c2, c3, HM, rfl⟩, rfl, hbx⟩; have HWx := keepB hbx (by assumption); (try (first | (replace BZ := BZ.below hbx BZ.lt; have z0 := BZ.cell 0; have z1 := BZ.cell 1; have z2 := BZ.cell 2; have z3 := BZ.cell 3; have f0 := BZ.frozen 0; have f1 := BZ.frozen 1; have f2 := BZ.frozen 2; have f3 := BZ.frozen 3; simp at z0 z1 z2 z3) | (have BZ := (Blk.new _ 27 #[.int .u64 0, .int .u64 0, .int .u64 0, .int .u64 0]).below hbx (by simp); have z0 := BZ.cell 0; have z1 := BZ.cell 1; have z2 := BZ.cell 2; have z3 := BZ.cell 3; have f0 := BZ.frozen 0; have f1 := BZ.frozen 1; have f2 := BZ.frozen 2; have f3 := BZ.frozen 3; simp at z0 z1 z2 z3)))) | (go_at_call 10; refine (of_c _ _).mono ?_; rintro e wx ⟨_, rfl, rfl, hbx⟩; (first | (replace BZ := BZ.below hbx BZ.lt) | (have BZ := (Blk.new wc 27 #[.int .u64 0, .int .u64 0, .int .u64 0, .int .u64 0]).drew.below hbx (by simp)) | (have BZ := (Blk.new wc.drew 27 #[.int .u64 0, .int .u64 0, .int .u64 0, .int .u64 0]).below hbx (by simp)) | (have BZ := (Blk.new _ 27 #[.int .u64 0, .int .u64 0, .int .u64 0, .int .u64 0]).below hbx (by simp)) | (replace hgz := (keepB hbx (by assumption)).1.size; replace hnz := neSize (keepB hbx (by assumption))))))
      all_goals
        go_wp2_with fail
        go_meet
        case rel => first | exact ⟨_, c0, c1, c2, c3, rfl, HM, HB.push HWx _ _⟩ | exact ⟨_, c0, c1, c2, c3, rfl, HM, HB.set4 HWx BZ hgz hnz⟩
    case rest =>
      clear W hgz hnz
      obtain ⟨gt, t0, t1, t2, t3, rfl, HM, W⟩ := hcut
      have HT1 := left_one hx0 hx1 HM
      clear HM
      have hgz := W.1.size
      have hnz := neSize W
      go_upto_region 8 with fail
      go_cut [13] (fun s wx => ∃ (go : Nat) (o0 o1 o2 o3 : Int), s = .pointer (some ⟨go, 0, none⟩) ∧ LeftR 1 0 0 0 N o0 o1 o2 o3 ∧ HB w [(go, 27, #[.int .u64 o0, .int .u64 o1, .int .u64 o2, .int .u64 o3]), (gt, 27, #[.int .u64 t0, .int .u64 t1, .int .u64 t2, .int .u64 t3]), (wl.heap.size, 27, #[.int .u64 l0, .int .u64 l1, .int .u64 l2, .int .u64 l3]), (ww.heap.size, 27, #[.int .u64 x0, .int .u64 x1, .int .u64 0, .int .u64 0]), (wa.heap.size, 23, #[.int .u64 x0, .int .u64 x1])] wx)
      case first =>
        go_region_held3 (fun w' => HB w [(gt, 27, #[.int .u64 t0, .int .u64 t1, .int .u64 t2, .int .u64 t3]), (wl.heap.size, 27, #[.int .u64 l0, .int .u64 l1, .int .u64 l2, .int .u64 l3]), (ww.heap.size, 27, #[.int .u64 x0, .int .u64 x1, .int .u64 0, .int .u64 0]), (wa.heap.size, 23, #[.int .u64 x0, .int .u64 x1])] w' ∧ (w'.cell? ⟨ww.heap.size, 0, none⟩ = some (.int .u64 x0) ∧ w'.cell? ⟨ww.heap.size, 1, none⟩ = some (.int .u64 x1) ∧ w'.cell? ⟨ww.heap.size, 2, none⟩ = some (.int .u64 0) ∧ w'.cell? ⟨ww.heap.size, 3, none⟩ = some (.int .u64 0))) (first | exact mk8 (HB.drew W) | exact mk8 HWx | exact mk8 (HB.alloc HWx _) | exact mk8 (keepB hbx (by assumption)) | exact mk8 (keepBA (by assumption) _) | exact mk8 (HB.sub (HB.set4 HWx BZ hgz hnz) (by simp))) (first | (go_at_call 16; refine (left_c _ _ _ _ _ _ (by assumption) (by assumption) (by assumption) (by assumption)).mono ?_; rintro e wx ⟨_, ⟨c0, c1, c2, c3, HM, rfl⟩, rfl, hbx⟩; have HWx := keepB hbx (by assumption); (try (first | (replace BZ := BZ.below hbx BZ.lt; have z0 := BZ.cell 0; have z1 := BZ.cell 1; have z2 := BZ.cell 2; have z3 := BZ.cell 3; have f0 := BZ.frozen 0; have f1 := BZ.frozen 1; have f2 := BZ.frozen 2; have f3 := BZ.frozen 3; simp at z0 z1 z2 z3) | (have BZ := (Blk.new _ 27 #[.int .u64 0, .int .u64 0, .int .u64 0, .int .u64 0]).below hbx (by simp); have z0 := BZ.cell 0; have z1 := BZ.cell 1; have z2 := BZ.cell 2; have z3 := BZ.cell 3; have f0 := BZ.frozen 0; have f1 := BZ.frozen 1; have f2 := BZ.frozen 2; have f3 := BZ.frozen 3; simp at z0 z1 z2 z3)))) | (go_at_call 18; (with_reducible refine (bits_i x0 x1 0 0 N n _ hx0 hx1 uz uz hn4 HNn.out).mono ?_); rintro e wx ⟨_, rfl, rfl, hbx⟩; (first | (replace BZ := BZ.below hbx BZ.lt) | (have BZ := (Blk.new wc 27 #[.int .u64 0, .int .u64 0, .int .u64 0, .int .u64 0]).drew.below hbx (by simp)) | (have BZ := (Blk.new wc.drew 27 #[.int .u64 0, .int .u64 0, .int .u64 0, .int .u64 0]).below hbx (by simp)) | (have BZ := (Blk.new _ 27 #[.int .u64 0, .int .u64 0, .int .u64 0, .int .u64 0]).below hbx (by simp)) | (replace hgz := (keepB hbx (by assumption)).1.size; replace hnz := neSize (keepB hbx (by assumption))))) | (go_at_call 20; refine (wide_c _ _ _).mono ?_; rintro e wx ⟨_, rfl, rfl, hbx⟩; (first | (replace BZ := BZ.below hbx BZ.lt) | (have BZ := (Blk.new wc 27 #[.int .u64 0, .int .u64 0, .int .u64 0, .int .u64 0]).drew.below hbx (by simp)) | (have BZ := (Blk.new wc.drew 27 #[.int .u64 0, .int .u64 0, .int .u64 0, .int .u64 0]).below hbx (by simp)) | (have BZ := (Blk.new _ 27 #[.int .u64 0, .int .u64 0, .int .u64 0, .int .u64 0]).below hbx (by simp)) | (replace hgz := (keepB hbx (by assumption)).1.size; replace hnz := neSize (keepB hbx (by assumption))))) | (go_at_call 10; refine (of_c _ _).mono ?_; rintro e wx ⟨_, rfl, rfl, hbx⟩; (first | (replace BZ := BZ.below hbx BZ.lt) | (have BZ := (Blk.new wc 27 #[.int .u64 0, .int .u64 0, .int .u64 0, .int .u64 0]).drew.below hbx (by simp)) | (have BZ := (Blk.new wc.drew 27 #[.int .u64 0, .int .u64 0, .int .u64 0, .int .u64 0]).below hbx (by simp)) | (have BZ := (Blk.new _ 27 #[.int .u64 0, .int .u64 0, .int .u64 0, .int .u64 0]).below hbx (by simp)) | (replace hgz := (keepB hbx (by assumption)).1.size; replace hnz := neSize (keepB hbx (by assumption))))))
        all_goals
          go_wp2_with fail
          go_meet
          case rel => first | exact ⟨_, c0, c1, c2, c3, rfl, HM, HB.push HWx _ _⟩ | exact ⟨_, c0, c1, c2, c3, rfl, HM, HB.set4 HWx BZ hgz hnz⟩
      case rest =>
        clear W hgz hnz
        obtain ⟨go, o0, o1, o2, o3, rfl, HO, W⟩ := hcut
        obtain ⟨ho0, ho1, ho2, ho3, -⟩ := id HO
        have HOn : BitsN (v4 o0 o1 o2 o3) (n + 1) := by have h := HNn.out; subst h; exact sh_unit hn2 HO
        obtain ⟨d0, d1, d2, d3, HD1⟩ := left_ex l0 l1 l2 l3 3
        have HD2 := left_three hk0 hk2 HL HD1
        have qt : eqW4 t0 t1 t2 t3 t0 t1 t2 t3 = true := eqW4_yes ⟨rfl, rfl, rfl, rfl⟩
        have qd : eqW4 d0 d1 d2 d3 d0 d1 d2 d3 = true := eqW4_yes ⟨rfl, rfl, rfl, rfl⟩
        have kw : IntKind.i64.wrap (k + 3) = k + 3 := IntWalk.i64_in _ (by omega)
        by_cases hNz : N = 0
        · subst hNz
          have hx : eqW4 x0 x1 0 0 0 0 0 0 = true := by
            have h1 : n = 0 := by have := HNn.out; omega
            obtain ⟨e0, e1⟩ := (v2_zero hx0 hx1).1 (HN0.out.2 h1)
            exact eqW4_yes ⟨e0, e1, rfl, rfl⟩
          have HO1 : ((n + 1 : Nat) : Int) = 1 := by have := HNn.out; omega
          have nw : IntKind.i64.wrap (0 + 1) = 1 := by decide
          have nw2 : IntKind.i64.wrap 1 = 1 := by decide
          have HO1h := Lib.hid HO1
          clear HO1
          go_upto_region 9 with fail
          refine wp_region_det (S := (fun w' => HB w [(go, 27, #[.int .u64 o0, .int .u64 o1, .int .u64 o2, .int .u64 o3]), (gt, 27, #[.int .u64 t0, .int .u64 t1, .int .u64 t2, .int .u64 t3]), (wl.heap.size, 27, #[.int .u64 l0, .int .u64 l1, .int .u64 l2, .int .u64 l3]), (ww.heap.size, 27, #[.int .u64 x0, .int .u64 x1, .int .u64 0, .int .u64 0]), (wa.heap.size, 23, #[.int .u64 x0, .int .u64 x1])] w' ∧ (w'.cell? ⟨ww.heap.size, 0, none⟩ = some (.int .u64 x0) ∧ w'.cell? ⟨ww.heap.size, 1, none⟩ = some (.int .u64 x1) ∧ w'.cell? ⟨ww.heap.size, 2, none⟩ = some (.int .u64 0) ∧ w'.cell? ⟨ww.heap.size, 3, none⟩ = some (.int .u64 0)) ∧ (w'.cell? ⟨gt, 0, none⟩ = some (.int .u64 t0) ∧ w'.cell? ⟨gt, 1, none⟩ = some (.int .u64 t1) ∧ w'.cell? ⟨gt, 2, none⟩ = some (.int .u64 t2) ∧ w'.cell? ⟨gt, 3, none⟩ = some (.int .u64 t3)) ∧ (w'.cell? ⟨go, 0, none⟩ = some (.int .u64 o0) ∧ w'.cell? ⟨go, 1, none⟩ = some (.int .u64 o1) ∧ w'.cell? ⟨go, 2, none⟩ = some (.int .u64 o2) ∧ w'.cell? ⟨go, 3, none⟩ = some (.int .u64 o3)))) (by kernel_rfl) (mk9 (HB.drew W)) ?_
          refine det_take (v := ?_) (i := 0) (fuel := 53) (by simp; rfl) (by kernel_rfl) (by kernel_rfl) (by kernel_rfl) (Or.inl ⟨by rfl, fun w' hS => Or.inr ⟨15, #[], w', ?_, ?_⟩⟩) ?_
          rotate_left
          · go_simp
            all_goals with_reducible rfl
          · exact (known_c _).mono fun e w2 ⟨_, hv, he, hb⟩ => ⟨by rw [he, hv], mk9 (HB.below hS.1 hb)⟩
          simp only [Act.put, List.setIfInBounds_toArray, List.set_cons_zero, List.set_cons_succ]
          refine det_take (v := ?_) (i := 1) (fuel := 52) (by simp; rfl) (by kernel_rfl) (by kernel_rfl) (by kernel_rfl) (Or.inl ⟨by rfl, fun w' hS => Or.inl ⟨w', ?_, hS⟩⟩) ?_
          rotate_left
          · obtain ⟨-, ⟨c0, c1, c2, c3⟩, ⟨e0, e1, e2, e3⟩, ⟨f0, f1, f2, f3⟩⟩ := hS
            go_simp
            all_goals with_reducible rfl
          simp only [Act.put, List.setIfInBounds_toArray, List.set_cons_zero, List.set_cons_succ]
          refine det_take (v := ?_) (i := 2) (fuel := 51) (by simp; rfl) (by kernel_rfl) (by kernel_rfl) (by kernel_rfl) (Or.inl ⟨by rfl, fun w' hS => Or.inl ⟨w', ?_, hS⟩⟩) ?_
          rotate_left
          · obtain ⟨-, ⟨c0, c1, c2, c3⟩, ⟨e0, e1, e2, e3⟩, ⟨f0, f1, f2, f3⟩⟩ := hS
            go_simp
            all_goals with_reducible rfl
          simp only [Act.put, List.setIfInBounds_toArray, List.set_cons_zero, List.set_cons_succ]
          refine det_take (v := ?_) (i := 3) (fuel := 50) (by simp; rfl) (by kernel_rfl) (by kernel_rfl) (by kernel_rfl) (Or.inl ⟨by rfl, fun w' hS => Or.inr ⟨16, #[.agg #[.int .u64 x0, .int .u64 x1, .int .u64 0, .int .u64 0], .int .i64 1], w', ?_, ?_⟩⟩) ?_
          rotate_left
          · go_simp
            all_goals with_reducible rfl
          · exact (left_u x0 x1 0 0 1 t0 t1 t2 t3 _ hx0 hx1 uz uz HT1).mono fun e w2 ⟨_, hv, he, hb⟩ => ⟨by rw [he, hv], mk9 (HB.below hS.1 hb)⟩
          simp only [Act.put, List.setIfInBounds_toArray, List.set_cons_zero, List.set_cons_succ]
          refine det_take (v := ?_) (i := 4) (fuel := 49) (by simp; rfl) (by kernel_rfl) (by kernel_rfl) (by kernel_rfl) (Or.inl ⟨by rfl, fun w' hS => Or.inl ⟨w', ?_, hS⟩⟩) ?_
          rotate_left
          · obtain ⟨-, ⟨c0, c1, c2, c3⟩, ⟨e0, e1, e2, e3⟩, ⟨f0, f1, f2, f3⟩⟩ := hS
            go_simp
            all_goals with_reducible rfl
          simp only [Act.put, List.setIfInBounds_toArray, List.set_cons_zero, List.set_cons_succ]
          refine det_take (v := ?_) (i := 5) (fuel := 48) (by simp; rfl) (by kernel_rfl) (by kernel_rfl) (by kernel_rfl) (Or.inl ⟨by rfl, fun w' hS => Or.inl ⟨w', ?_, hS⟩⟩) ?_
          rotate_left
          · obtain ⟨-, ⟨c0, c1, c2, c3⟩, ⟨e0, e1, e2, e3⟩, ⟨f0, f1, f2, f3⟩⟩ := hS
            go_simp
            all_goals with_reducible rfl
          simp only [Act.put, List.setIfInBounds_toArray, List.set_cons_zero, List.set_cons_succ]
          refine det_take (v := ?_) (i := 6) (fuel := 47) (by simp; rfl) (by kernel_rfl) (by kernel_rfl) (by kernel_rfl) (Or.inl ⟨by rfl, fun w' hS => Or.inl ⟨w', ?_, hS⟩⟩) ?_
          rotate_left
          · obtain ⟨-, ⟨c0, c1, c2, c3⟩, ⟨e0, e1, e2, e3⟩, ⟨f0, f1, f2, f3⟩⟩ := hS
            go_simp
            all_goals with_reducible rfl
          simp only [Act.put, List.setIfInBounds_toArray, List.set_cons_zero, List.set_cons_succ]
          refine det_take (v := ?_) (i := 7) (fuel := 46) (by simp; rfl) (by kernel_rfl) (by kernel_rfl) (by kernel_rfl) (Or.inl ⟨by rfl, fun w' hS => Or.inl ⟨w', ?_, hS⟩⟩) ?_
          rotate_left
          · obtain ⟨-, ⟨c0, c1, c2, c3⟩, ⟨e0, e1, e2, e3⟩, ⟨f0, f1, f2, f3⟩⟩ := hS
            go_simp
            all_goals with_reducible rfl
          simp only [Act.put, List.setIfInBounds_toArray, List.set_cons_zero, List.set_cons_succ]
          refine det_take (v := ?_) (i := 8) (fuel := 45) (by simp; rfl) (by kernel_rfl) (by kernel_rfl) (by kernel_rfl) (Or.inl ⟨by rfl, fun w' hS => Or.inl ⟨w', ?_, hS⟩⟩) ?_
          rotate_left
          · obtain ⟨-, ⟨c0, c1, c2, c3⟩, ⟨e0, e1, e2, e3⟩, ⟨f0, f1, f2, f3⟩⟩ := hS
            go_simp
            all_goals with_reducible rfl
          simp only [Act.put, List.setIfInBounds_toArray, List.set_cons_zero, List.set_cons_succ]
          refine det_take (v := ?_) (i := 9) (fuel := 44) (by simp; rfl) (by kernel_rfl) (by kernel_rfl) (by kernel_rfl) (Or.inl ⟨by rfl, fun w' hS => Or.inl ⟨w', ?_, hS⟩⟩) ?_
          rotate_left
          · obtain ⟨-, ⟨c0, c1, c2, c3⟩, ⟨e0, e1, e2, e3⟩, ⟨f0, f1, f2, f3⟩⟩ := hS
            go_simp
            all_goals with_reducible rfl
          simp only [Act.put, List.setIfInBounds_toArray, List.set_cons_zero, List.set_cons_succ]
          refine det_take (v := ?_) (i := 10) (fuel := 43) (by simp; rfl) (by kernel_rfl) (by kernel_rfl) (by kernel_rfl) (Or.inl ⟨by rfl, fun w' hS => Or.inr ⟨16, #[.agg #[.int .u64 x0, .int .u64 x1, .int .u64 0, .int .u64 0], .int .i64 k], w', ?_, ?_⟩⟩) ?_
          rotate_left
          · go_simp
            all_goals with_reducible rfl
          · exact (left_u x0 x1 0 0 k l0 l1 l2 l3 _ hx0 hx1 uz uz HL).mono fun e w2 ⟨_, hv, he, hb⟩ => ⟨by rw [he, hv], mk9 (HB.below hS.1 hb)⟩
          simp only [Act.put, List.setIfInBounds_toArray, List.set_cons_zero, List.set_cons_succ]
          refine det_take (v := ?_) (i := 11) (fuel := 42) (by simp; rfl) (by kernel_rfl) (by kernel_rfl) (by kernel_rfl) (Or.inl ⟨by rfl, fun w' hS => Or.inr ⟨16, #[.agg #[.int .u64 l0, .int .u64 l1, .int .u64 l2, .int .u64 l3], .int .i64 3], w', ?_, ?_⟩⟩) ?_
          rotate_left
          · go_simp
            all_goals with_reducible rfl
          · exact (left_u l0 l1 l2 l3 3 d0 d1 d2 d3 _ hl0 hl1 hl2 hl3 HD1).mono fun e w2 ⟨_, hv, he, hb⟩ => ⟨by rw [he, hv], mk9 (HB.below hS.1 hb)⟩
          simp only [Act.put, List.setIfInBounds_toArray, List.set_cons_zero, List.set_cons_succ]
          refine det_take (v := ?_) (i := 12) (fuel := 41) (by simp; rfl) (by kernel_rfl) (by kernel_rfl) (by kernel_rfl) (Or.inl ⟨by rfl, fun w' hS => Or.inl ⟨w', ?_, hS⟩⟩) ?_
          rotate_left
          · obtain ⟨-, ⟨c0, c1, c2, c3⟩, ⟨e0, e1, e2, e3⟩, ⟨f0, f1, f2, f3⟩⟩ := hS
            go_simp
            all_goals with_reducible rfl
          simp only [Act.put, List.setIfInBounds_toArray, List.set_cons_zero, List.set_cons_succ]
          refine det_take (v := ?_) (i := 13) (fuel := 40) (by simp; rfl) (by kernel_rfl) (by kernel_rfl) (by kernel_rfl) (Or.inl ⟨by rfl, fun w' hS => Or.inl ⟨w', ?_, hS⟩⟩) ?_
          rotate_left
          · obtain ⟨-, ⟨c0, c1, c2, c3⟩, ⟨e0, e1, e2, e3⟩, ⟨f0, f1, f2, f3⟩⟩ := hS
            go_simp
            all_goals with_reducible rfl
          simp only [Act.put, List.setIfInBounds_toArray, List.set_cons_zero, List.set_cons_succ]
          refine det_take (v := ?_) (i := 14) (fuel := 39) (by simp; rfl) (by kernel_rfl) (by kernel_rfl) (by kernel_rfl) (Or.inl ⟨by rfl, fun w' hS => Or.inl ⟨w', ?_, hS⟩⟩) ?_
          rotate_left
          · obtain ⟨-, ⟨c0, c1, c2, c3⟩, ⟨e0, e1, e2, e3⟩, ⟨f0, f1, f2, f3⟩⟩ := hS
            go_simp
            all_goals with_reducible rfl
          simp only [Act.put, List.setIfInBounds_toArray, List.set_cons_zero, List.set_cons_succ]
          refine det_take (v := ?_) (i := 15) (fuel := 38) (by simp; rfl) (by kernel_rfl) (by kernel_rfl) (by kernel_rfl) (Or.inl ⟨by rfl, fun w' hS => Or.inr ⟨16, #[.agg #[.int .u64 x0, .int .u64 x1, .int .u64 0, .int .u64 0], .int .i64 (k + 3)], w', ?_, ?_⟩⟩) ?_
          rotate_left
          · go_simp
            all_goals with_reducible rfl
          · exact (left_u x0 x1 0 0 (k + 3) d0 d1 d2 d3 _ hx0 hx1 uz uz HD2).mono fun e w2 ⟨_, hv, he, hb⟩ => ⟨by rw [he, hv], mk9 (HB.below hS.1 hb)⟩
          simp only [Act.put, List.setIfInBounds_toArray, List.set_cons_zero, List.set_cons_succ]
          refine det_take (v := ?_) (i := 16) (fuel := 37) (by simp; rfl) (by kernel_rfl) (by kernel_rfl) (by kernel_rfl) (Or.inl ⟨by rfl, fun w' hS => Or.inl ⟨w', ?_, hS⟩⟩) ?_
          rotate_left
          · obtain ⟨-, ⟨c0, c1, c2, c3⟩, ⟨e0, e1, e2, e3⟩, ⟨f0, f1, f2, f3⟩⟩ := hS
            go_simp
            all_goals with_reducible rfl
          simp only [Act.put, List.setIfInBounds_toArray, List.set_cons_zero, List.set_cons_succ]
          refine det_take (v := ?_) (i := 17) (fuel := 36) (by simp; rfl) (by kernel_rfl) (by kernel_rfl) (by kernel_rfl) (Or.inl ⟨by rfl, fun w' hS => Or.inl ⟨w', ?_, hS⟩⟩) ?_
          rotate_left
          · obtain ⟨-, ⟨c0, c1, c2, c3⟩, ⟨e0, e1, e2, e3⟩, ⟨f0, f1, f2, f3⟩⟩ := hS
            go_simp
            all_goals with_reducible rfl
          simp only [Act.put, List.setIfInBounds_toArray, List.set_cons_zero, List.set_cons_succ]
          refine det_take (v := ?_) (i := 18) (fuel := 35) (by simp; rfl) (by kernel_rfl) (by kernel_rfl) (by kernel_rfl) (Or.inl ⟨by rfl, fun w' hS => Or.inl ⟨w', ?_, hS⟩⟩) ?_
          rotate_left
          · obtain ⟨-, ⟨c0, c1, c2, c3⟩, ⟨e0, e1, e2, e3⟩, ⟨f0, f1, f2, f3⟩⟩ := hS
            go_simp
            all_goals with_reducible rfl
          simp only [Act.put, List.setIfInBounds_toArray, List.set_cons_zero, List.set_cons_succ]
          refine det_take (v := ?_) (i := 19) (fuel := 34) (by simp; rfl) (by kernel_rfl) (by kernel_rfl) (by kernel_rfl) (Or.inl ⟨by rfl, fun w' hS => Or.inl ⟨w', ?_, hS⟩⟩) ?_
          rotate_left
          · obtain ⟨-, ⟨c0, c1, c2, c3⟩, ⟨e0, e1, e2, e3⟩, ⟨f0, f1, f2, f3⟩⟩ := hS
            go_simp
            all_goals with_reducible rfl
          simp only [Act.put, List.setIfInBounds_toArray, List.set_cons_zero, List.set_cons_succ]
          refine det_take (v := ?_) (i := 20) (fuel := 33) (by simp; rfl) (by kernel_rfl) (by kernel_rfl) (by kernel_rfl) (Or.inl ⟨by rfl, fun w' hS => Or.inr ⟨18, #[.agg #[.int .u64 x0, .int .u64 x1, .int .u64 0, .int .u64 0]], w', ?_, ?_⟩⟩) ?_
          rotate_left
          · go_simp
            all_goals with_reducible rfl
          · exact (bits_i x0 x1 0 0 0 n _ hx0 hx1 uz uz hn4 HNn.out).mono fun e w2 ⟨_, hv, he, hb⟩ => ⟨by rw [he, hv], mk9 (HB.below hS.1 hb)⟩
          simp only [Act.put, List.setIfInBounds_toArray, List.set_cons_zero, List.set_cons_succ]
          refine det_take (v := ?_) (i := 21) (fuel := 32) (by simp; rfl) (by kernel_rfl) (by kernel_rfl) (by kernel_rfl) (Or.inl ⟨by rfl, fun w' hS => Or.inl ⟨w', ?_, hS⟩⟩) ?_
          rotate_left
          · obtain ⟨-, ⟨c0, c1, c2, c3⟩, ⟨e0, e1, e2, e3⟩, ⟨f0, f1, f2, f3⟩⟩ := hS
            go_simp
            all_goals with_reducible rfl
          simp only [Act.put, List.setIfInBounds_toArray, List.set_cons_zero, List.set_cons_succ]
          refine det_take (v := ?_) (i := 22) (fuel := 31) (by simp; rfl) (by kernel_rfl) (by kernel_rfl) (by kernel_rfl) (Or.inl ⟨by rfl, fun w' hS => Or.inl ⟨w', ?_, hS⟩⟩) ?_
          rotate_left
          · obtain ⟨-, ⟨c0, c1, c2, c3⟩, ⟨e0, e1, e2, e3⟩, ⟨f0, f1, f2, f3⟩⟩ := hS
            go_simp
            all_goals with_reducible rfl
          simp only [Act.put, List.setIfInBounds_toArray, List.set_cons_zero, List.set_cons_succ]
          refine det_take (v := ?_) (i := 23) (fuel := 30) (by simp; rfl) (by kernel_rfl) (by kernel_rfl) (by kernel_rfl) (Or.inl ⟨by rfl, fun w' hS => Or.inl ⟨w', ?_, hS⟩⟩) ?_
          rotate_left
          · obtain ⟨-, ⟨c0, c1, c2, c3⟩, ⟨e0, e1, e2, e3⟩, ⟨f0, f1, f2, f3⟩⟩ := hS
            go_simp
            all_goals with_reducible rfl
          simp only [Act.put, List.setIfInBounds_toArray, List.set_cons_zero, List.set_cons_succ]
          refine det_take (v := ?_) (i := 24) (fuel := 29) (by simp; rfl) (by kernel_rfl) (by kernel_rfl) (by kernel_rfl) (Or.inl ⟨by rfl, fun w' hS => Or.inl ⟨w', ?_, hS⟩⟩) ?_
          rotate_left
          · obtain ⟨-, ⟨c0, c1, c2, c3⟩, ⟨e0, e1, e2, e3⟩, ⟨f0, f1, f2, f3⟩⟩ := hS
            go_simp
            all_goals with_reducible rfl
          simp only [Act.put, List.setIfInBounds_toArray, List.set_cons_zero, List.set_cons_succ]
          refine det_take (v := ?_) (i := 25) (fuel := 28) (by simp; rfl) (by kernel_rfl) (by kernel_rfl) (by kernel_rfl) (Or.inl ⟨by rfl, fun w' hS => Or.inl ⟨w', ?_, hS⟩⟩) ?_
          rotate_left
          · obtain ⟨-, ⟨c0, c1, c2, c3⟩, ⟨e0, e1, e2, e3⟩, ⟨f0, f1, f2, f3⟩⟩ := hS
            go_simp
            all_goals with_reducible rfl
          simp only [Act.put, List.setIfInBounds_toArray, List.set_cons_zero, List.set_cons_succ]
          refine det_take (v := ?_) (i := 26) (fuel := 27) (by simp; rfl) (by kernel_rfl) (by kernel_rfl) (by kernel_rfl) (Or.inl ⟨by rfl, fun w' hS => Or.inl ⟨w', ?_, hS⟩⟩) ?_
          rotate_left
          · obtain ⟨-, ⟨c0, c1, c2, c3⟩, ⟨e0, e1, e2, e3⟩, ⟨f0, f1, f2, f3⟩⟩ := hS
            go_simp
            all_goals with_reducible rfl
          simp only [Act.put, List.setIfInBounds_toArray, List.set_cons_zero, List.set_cons_succ]
          refine det_take (v := ?_) (i := 27) (fuel := 26) (by simp; rfl) (by kernel_rfl) (by kernel_rfl) (by kernel_rfl) (Or.inl ⟨by rfl, fun w' hS => Or.inl ⟨w', ?_, hS⟩⟩) ?_
          rotate_left
          · obtain ⟨-, ⟨c0, c1, c2, c3⟩, ⟨e0, e1, e2, e3⟩, ⟨f0, f1, f2, f3⟩⟩ := hS
            go_simp
            all_goals with_reducible rfl
          simp only [Act.put, List.setIfInBounds_toArray, List.set_cons_zero, List.set_cons_succ]
          refine det_take (v := undef) (i := 28) (fuel := 25) (by simp; rfl) (by kernel_rfl) (by kernel_rfl) (by kernel_rfl) (Or.inr ⟨by rfl, rfl⟩) ?_
          simp only [Act.put, List.setIfInBounds_toArray, List.set_cons_zero, List.set_cons_succ]
          refine det_take (v := undef) (i := 29) (fuel := 24) (by simp; rfl) (by kernel_rfl) (by kernel_rfl) (by kernel_rfl) (Or.inr ⟨by rfl, rfl⟩) ?_
          simp only [Act.put, List.setIfInBounds_toArray, List.set_cons_zero, List.set_cons_succ]
          refine det_take (v := undef) (i := 30) (fuel := 23) (by simp; rfl) (by kernel_rfl) (by kernel_rfl) (by kernel_rfl) (Or.inr ⟨by rfl, rfl⟩) ?_
          simp only [Act.put, List.setIfInBounds_toArray, List.set_cons_zero, List.set_cons_succ]
          refine det_take (v := undef) (i := 31) (fuel := 22) (by simp; rfl) (by kernel_rfl) (by kernel_rfl) (by kernel_rfl) (Or.inr ⟨by rfl, rfl⟩) ?_
          simp only [Act.put, List.setIfInBounds_toArray, List.set_cons_zero, List.set_cons_succ]
          refine det_take (v := undef) (i := 32) (fuel := 21) (by simp; rfl) (by kernel_rfl) (by kernel_rfl) (by kernel_rfl) (Or.inr ⟨by rfl, rfl⟩) ?_
          simp only [Act.put, List.setIfInBounds_toArray, List.set_cons_zero, List.set_cons_succ]
          refine det_take (v := undef) (i := 33) (fuel := 20) (by simp; rfl) (by kernel_rfl) (by kernel_rfl) (by kernel_rfl) (Or.inr ⟨by rfl, rfl⟩) ?_
          simp only [Act.put, List.setIfInBounds_toArray, List.set_cons_zero, List.set_cons_succ]
          refine det_take (v := undef) (i := 34) (fuel := 19) (by simp; rfl) (by kernel_rfl) (by kernel_rfl) (by kernel_rfl) (Or.inr ⟨by rfl, rfl⟩) ?_
          simp only [Act.put, List.setIfInBounds_toArray, List.set_cons_zero, List.set_cons_succ]
          refine det_take (v := undef) (i := 35) (fuel := 18) (by simp; rfl) (by kernel_rfl) (by kernel_rfl) (by kernel_rfl) (Or.inr ⟨by rfl, rfl⟩) ?_
          simp only [Act.put, List.setIfInBounds_toArray, List.set_cons_zero, List.set_cons_succ]
          refine det_take (v := undef) (i := 36) (fuel := 17) (by simp; rfl) (by kernel_rfl) (by kernel_rfl) (by kernel_rfl) (Or.inr ⟨by rfl, rfl⟩) ?_
          simp only [Act.put, List.setIfInBounds_toArray, List.set_cons_zero, List.set_cons_succ]
          refine det_take (v := undef) (i := 37) (fuel := 16) (by simp; rfl) (by kernel_rfl) (by kernel_rfl) (by kernel_rfl) (Or.inr ⟨by rfl, rfl⟩) ?_
          simp only [Act.put, List.setIfInBounds_toArray, List.set_cons_zero, List.set_cons_succ]
          refine det_take (v := undef) (i := 38) (fuel := 15) (by simp; rfl) (by kernel_rfl) (by kernel_rfl) (by kernel_rfl) (Or.inr ⟨by rfl, rfl⟩) ?_
          simp only [Act.put, List.setIfInBounds_toArray, List.set_cons_zero, List.set_cons_succ]
          refine det_take (v := undef) (i := 39) (fuel := 14) (by simp; rfl) (by kernel_rfl) (by kernel_rfl) (by kernel_rfl) (Or.inr ⟨by rfl, rfl⟩) ?_
          simp only [Act.put, List.setIfInBounds_toArray, List.set_cons_zero, List.set_cons_succ]
          refine det_take (v := undef) (i := 40) (fuel := 13) (by simp; rfl) (by kernel_rfl) (by kernel_rfl) (by kernel_rfl) (Or.inr ⟨by rfl, rfl⟩) ?_
          simp only [Act.put, List.setIfInBounds_toArray, List.set_cons_zero, List.set_cons_succ]
          refine det_take (v := undef) (i := 41) (fuel := 12) (by simp; rfl) (by kernel_rfl) (by kernel_rfl) (by kernel_rfl) (Or.inr ⟨by rfl, rfl⟩) ?_
          simp only [Act.put, List.setIfInBounds_toArray, List.set_cons_zero, List.set_cons_succ]
          refine det_take (v := undef) (i := 42) (fuel := 11) (by simp; rfl) (by kernel_rfl) (by kernel_rfl) (by kernel_rfl) (Or.inr ⟨by rfl, rfl⟩) ?_
          simp only [Act.put, List.setIfInBounds_toArray, List.set_cons_zero, List.set_cons_succ]
          refine det_take (v := ?_) (i := 43) (fuel := 10) (by simp; rfl) (by kernel_rfl) (by kernel_rfl) (by kernel_rfl) (Or.inl ⟨by rfl, fun w' hS => Or.inl ⟨w', ?_, hS⟩⟩) ?_
          rotate_left
          · obtain ⟨-, ⟨c0, c1, c2, c3⟩, ⟨e0, e1, e2, e3⟩, ⟨f0, f1, f2, f3⟩⟩ := hS
            go_simp
            all_goals with_reducible rfl
          simp only [Act.put, List.setIfInBounds_toArray, List.set_cons_zero, List.set_cons_succ]
          refine det_take (v := ?_) (i := 44) (fuel := 9) (by simp; rfl) (by kernel_rfl) (by kernel_rfl) (by kernel_rfl) (Or.inl ⟨by rfl, fun w' hS => Or.inl ⟨w', ?_, hS⟩⟩) ?_
          rotate_left
          · obtain ⟨-, ⟨c0, c1, c2, c3⟩, ⟨e0, e1, e2, e3⟩, ⟨f0, f1, f2, f3⟩⟩ := hS
            go_simp
            all_goals with_reducible rfl
          simp only [Act.put, List.setIfInBounds_toArray, List.set_cons_zero, List.set_cons_succ]
          refine det_take (v := ?_) (i := 45) (fuel := 8) (by simp; rfl) (by kernel_rfl) (by kernel_rfl) (by kernel_rfl) (Or.inl ⟨by rfl, fun w' hS => Or.inl ⟨w', ?_, hS⟩⟩) ?_
          rotate_left
          · obtain ⟨-, ⟨c0, c1, c2, c3⟩, ⟨e0, e1, e2, e3⟩, ⟨f0, f1, f2, f3⟩⟩ := hS
            go_simp
            all_goals with_reducible rfl
          simp only [Act.put, List.setIfInBounds_toArray, List.set_cons_zero, List.set_cons_succ]
          refine det_take (v := ?_) (i := 46) (fuel := 7) (by simp; rfl) (by kernel_rfl) (by kernel_rfl) (by kernel_rfl) (Or.inl ⟨by rfl, fun w' hS => Or.inl ⟨w', ?_, hS⟩⟩) ?_
          rotate_left
          · obtain ⟨-, ⟨c0, c1, c2, c3⟩, ⟨e0, e1, e2, e3⟩, ⟨f0, f1, f2, f3⟩⟩ := hS
            go_simp
            all_goals with_reducible rfl
          simp only [Act.put, List.setIfInBounds_toArray, List.set_cons_zero, List.set_cons_succ]
          refine det_take (v := ?_) (i := 47) (fuel := 6) (by simp; rfl) (by kernel_rfl) (by kernel_rfl) (by kernel_rfl) (Or.inl ⟨by rfl, fun w' hS => Or.inr ⟨18, #[.agg #[.int .u64 o0, .int .u64 o1, .int .u64 o2, .int .u64 o3]], w', ?_, ?_⟩⟩) ?_
          rotate_left
          · go_simp
            all_goals with_reducible rfl
          · exact (bits_i o0 o1 o2 o3 1 (n + 1) _ ho0 ho1 ho2 ho3 HOn HO1h.out).mono fun e w2 ⟨_, hv, he, hb⟩ => ⟨by rw [he, hv], mk9 (HB.below hS.1 hb)⟩
          simp only [Act.put, List.setIfInBounds_toArray, List.set_cons_zero, List.set_cons_succ]
          refine det_take (v := ?_) (i := 48) (fuel := 5) (by simp; rfl) (by kernel_rfl) (by kernel_rfl) (by kernel_rfl) (Or.inl ⟨by rfl, fun w' hS => Or.inl ⟨w', ?_, hS⟩⟩) ?_
          rotate_left
          · obtain ⟨-, ⟨c0, c1, c2, c3⟩, ⟨e0, e1, e2, e3⟩, ⟨f0, f1, f2, f3⟩⟩ := hS
            go_simp
            all_goals with_reducible rfl
          simp only [Act.put, List.setIfInBounds_toArray, List.set_cons_zero, List.set_cons_succ]
          refine det_take (v := ?_) (i := 49) (fuel := 4) (by simp; rfl) (by kernel_rfl) (by kernel_rfl) (by kernel_rfl) (Or.inl ⟨by rfl, fun w' hS => Or.inr ⟨18, #[.agg #[.int .u64 x0, .int .u64 x1, .int .u64 0, .int .u64 0]], w', ?_, ?_⟩⟩) ?_
          rotate_left
          · go_simp
            all_goals with_reducible rfl
          · exact (bits_i x0 x1 0 0 0 n _ hx0 hx1 uz uz hn4 HNn.out).mono fun e w2 ⟨_, hv, he, hb⟩ => ⟨by rw [he, hv], mk9 (HB.below hS.1 hb)⟩
          simp only [Act.put, List.setIfInBounds_toArray, List.set_cons_zero, List.set_cons_succ]
          refine det_take (v := ?_) (i := 50) (fuel := 3) (by simp; rfl) (by kernel_rfl) (by kernel_rfl) (by kernel_rfl) (Or.inl ⟨by rfl, fun w' hS => Or.inl ⟨w', ?_, hS⟩⟩) ?_
          rotate_left
          · obtain ⟨-, ⟨c0, c1, c2, c3⟩, ⟨e0, e1, e2, e3⟩, ⟨f0, f1, f2, f3⟩⟩ := hS
            go_simp
            all_goals with_reducible rfl
          simp only [Act.put, List.setIfInBounds_toArray, List.set_cons_zero, List.set_cons_succ]
          refine det_take (v := ?_) (i := 51) (fuel := 2) (by simp; rfl) (by kernel_rfl) (by kernel_rfl) (by kernel_rfl) (Or.inl ⟨by rfl, fun w' hS => Or.inl ⟨w', ?_, hS⟩⟩) ?_
          rotate_left
          · obtain ⟨-, ⟨c0, c1, c2, c3⟩, ⟨e0, e1, e2, e3⟩, ⟨f0, f1, f2, f3⟩⟩ := hS
            go_simp
            all_goals with_reducible rfl
          simp only [Act.put, List.setIfInBounds_toArray, List.set_cons_zero, List.set_cons_succ]
          refine det_take (v := ?_) (i := 52) (fuel := 1) (by simp; rfl) (by kernel_rfl) (by kernel_rfl) (by kernel_rfl) (Or.inl ⟨by rfl, fun w' hS => Or.inl ⟨w', ?_, hS⟩⟩) ?_
          rotate_left
          · obtain ⟨-, ⟨c0, c1, c2, c3⟩, ⟨e0, e1, e2, e3⟩, ⟨f0, f1, f2, f3⟩⟩ := hS
            go_simp
            all_goals with_reducible rfl
          simp only [Act.put, List.setIfInBounds_toArray, List.set_cons_zero, List.set_cons_succ]
          refine det_take (v := ?_) (i := 53) (fuel := 0) (by simp; rfl) (by kernel_rfl) (by kernel_rfl) (by kernel_rfl) (Or.inl ⟨by rfl, fun w' hS => Or.inl ⟨w', ?_, hS⟩⟩) ?_
          rotate_left
          · obtain ⟨-, ⟨c0, c1, c2, c3⟩, ⟨e0, e1, e2, e3⟩, ⟨f0, f1, f2, f3⟩⟩ := hS
            go_simp
            all_goals with_reducible rfl
          simp only [Act.put, List.setIfInBounds_toArray, List.set_cons_zero, List.set_cons_succ]
          refine det_done (by kernel_rfl) (fun w' hS => ?_) _
          go_wp2
          go_ret
          exact ⟨rfl, hS.1.1⟩
        · have hp : 0 < n := by have := HNn.out; omega
          have gN : (N == 0) = false := by simp [hNz]
          have HR0 : RightR x0 x1 0 0 N 0 0 0 0 := by have h := HNn.out; subst h; exact right_zero hx0 hx1 hn hn2
          have HR1 : RightR x0 x1 0 0 (N - 1) 1 0 0 0 := by have h := HNn.out; subst h; exact right_one hx0 hx1 hn hp hn2
          have HO1h := Lib.hid (show ((n + 1 : Nat) : Int) = N + 1 by have := HNn.out; omega)
          have nw : IntKind.i64.wrap (N + 1) = N + 1 := IntWalk.i64_in _ (by omega)
          have nw2 : IntKind.i64.wrap (N - 1) = N - 1 := IntWalk.i64_in _ (by omega)
          have qz : eqW4 0 0 0 0 0 0 0 0 = true := eqW4_yes ⟨rfl, rfl, rfl, rfl⟩
          have q1 : eqW4 1 0 0 0 1 0 0 0 = true := eqW4_yes ⟨rfl, rfl, rfl, rfl⟩
          clear hp hNz
          go_upto_region 9 with fail
          refine wp_region_det (S := (fun w' => HB w [(go, 27, #[.int .u64 o0, .int .u64 o1, .int .u64 o2, .int .u64 o3]), (gt, 27, #[.int .u64 t0, .int .u64 t1, .int .u64 t2, .int .u64 t3]), (wl.heap.size, 27, #[.int .u64 l0, .int .u64 l1, .int .u64 l2, .int .u64 l3]), (ww.heap.size, 27, #[.int .u64 x0, .int .u64 x1, .int .u64 0, .int .u64 0]), (wa.heap.size, 23, #[.int .u64 x0, .int .u64 x1])] w' ∧ (w'.cell? ⟨ww.heap.size, 0, none⟩ = some (.int .u64 x0) ∧ w'.cell? ⟨ww.heap.size, 1, none⟩ = some (.int .u64 x1) ∧ w'.cell? ⟨ww.heap.size, 2, none⟩ = some (.int .u64 0) ∧ w'.cell? ⟨ww.heap.size, 3, none⟩ = some (.int .u64 0)) ∧ (w'.cell? ⟨gt, 0, none⟩ = some (.int .u64 t0) ∧ w'.cell? ⟨gt, 1, none⟩ = some (.int .u64 t1) ∧ w'.cell? ⟨gt, 2, none⟩ = some (.int .u64 t2) ∧ w'.cell? ⟨gt, 3, none⟩ = some (.int .u64 t3)) ∧ (w'.cell? ⟨go, 0, none⟩ = some (.int .u64 o0) ∧ w'.cell? ⟨go, 1, none⟩ = some (.int .u64 o1) ∧ w'.cell? ⟨go, 2, none⟩ = some (.int .u64 o2) ∧ w'.cell? ⟨go, 3, none⟩ = some (.int .u64 o3)))) (by kernel_rfl) (mk9 (HB.drew W)) ?_
          refine det_take (v := ?_) (i := 0) (fuel := 53) (by simp; rfl) (by kernel_rfl) (by kernel_rfl) (by kernel_rfl) (Or.inl ⟨by rfl, fun w' hS => Or.inr ⟨15, #[], w', ?_, ?_⟩⟩) ?_
          rotate_left
          · go_simp
            all_goals with_reducible rfl
          · exact (known_c _).mono fun e w2 ⟨_, hv, he, hb⟩ => ⟨by rw [he, hv], mk9 (HB.below hS.1 hb)⟩
          simp only [Act.put, List.setIfInBounds_toArray, List.set_cons_zero, List.set_cons_succ]
          refine det_take (v := ?_) (i := 1) (fuel := 52) (by simp; rfl) (by kernel_rfl) (by kernel_rfl) (by kernel_rfl) (Or.inl ⟨by rfl, fun w' hS => Or.inl ⟨w', ?_, hS⟩⟩) ?_
          rotate_left
          · obtain ⟨-, ⟨c0, c1, c2, c3⟩, ⟨e0, e1, e2, e3⟩, ⟨f0, f1, f2, f3⟩⟩ := hS
            go_simp
            all_goals with_reducible rfl
          simp only [Act.put, List.setIfInBounds_toArray, List.set_cons_zero, List.set_cons_succ]
          refine det_take (v := ?_) (i := 2) (fuel := 51) (by simp; rfl) (by kernel_rfl) (by kernel_rfl) (by kernel_rfl) (Or.inl ⟨by rfl, fun w' hS => Or.inl ⟨w', ?_, hS⟩⟩) ?_
          rotate_left
          · obtain ⟨-, ⟨c0, c1, c2, c3⟩, ⟨e0, e1, e2, e3⟩, ⟨f0, f1, f2, f3⟩⟩ := hS
            go_simp
            all_goals with_reducible rfl
          simp only [Act.put, List.setIfInBounds_toArray, List.set_cons_zero, List.set_cons_succ]
          refine det_take (v := ?_) (i := 3) (fuel := 50) (by simp; rfl) (by kernel_rfl) (by kernel_rfl) (by kernel_rfl) (Or.inl ⟨by rfl, fun w' hS => Or.inr ⟨16, #[.agg #[.int .u64 x0, .int .u64 x1, .int .u64 0, .int .u64 0], .int .i64 1], w', ?_, ?_⟩⟩) ?_
          rotate_left
          · go_simp
            all_goals with_reducible rfl
          · exact (left_u x0 x1 0 0 1 t0 t1 t2 t3 _ hx0 hx1 uz uz HT1).mono fun e w2 ⟨_, hv, he, hb⟩ => ⟨by rw [he, hv], mk9 (HB.below hS.1 hb)⟩
          simp only [Act.put, List.setIfInBounds_toArray, List.set_cons_zero, List.set_cons_succ]
          refine det_take (v := ?_) (i := 4) (fuel := 49) (by simp; rfl) (by kernel_rfl) (by kernel_rfl) (by kernel_rfl) (Or.inl ⟨by rfl, fun w' hS => Or.inl ⟨w', ?_, hS⟩⟩) ?_
          rotate_left
          · obtain ⟨-, ⟨c0, c1, c2, c3⟩, ⟨e0, e1, e2, e3⟩, ⟨f0, f1, f2, f3⟩⟩ := hS
            go_simp
            all_goals with_reducible rfl
          simp only [Act.put, List.setIfInBounds_toArray, List.set_cons_zero, List.set_cons_succ]
          refine det_take (v := ?_) (i := 5) (fuel := 48) (by simp; rfl) (by kernel_rfl) (by kernel_rfl) (by kernel_rfl) (Or.inl ⟨by rfl, fun w' hS => Or.inl ⟨w', ?_, hS⟩⟩) ?_
          rotate_left
          · obtain ⟨-, ⟨c0, c1, c2, c3⟩, ⟨e0, e1, e2, e3⟩, ⟨f0, f1, f2, f3⟩⟩ := hS
            go_simp
            all_goals with_reducible rfl
          simp only [Act.put, List.setIfInBounds_toArray, List.set_cons_zero, List.set_cons_succ]
          refine det_take (v := ?_) (i := 6) (fuel := 47) (by simp; rfl) (by kernel_rfl) (by kernel_rfl) (by kernel_rfl) (Or.inl ⟨by rfl, fun w' hS => Or.inl ⟨w', ?_, hS⟩⟩) ?_
          rotate_left
          · obtain ⟨-, ⟨c0, c1, c2, c3⟩, ⟨e0, e1, e2, e3⟩, ⟨f0, f1, f2, f3⟩⟩ := hS
            go_simp
            all_goals with_reducible rfl
          simp only [Act.put, List.setIfInBounds_toArray, List.set_cons_zero, List.set_cons_succ]
          refine det_take (v := ?_) (i := 7) (fuel := 46) (by simp; rfl) (by kernel_rfl) (by kernel_rfl) (by kernel_rfl) (Or.inl ⟨by rfl, fun w' hS => Or.inl ⟨w', ?_, hS⟩⟩) ?_
          rotate_left
          · obtain ⟨-, ⟨c0, c1, c2, c3⟩, ⟨e0, e1, e2, e3⟩, ⟨f0, f1, f2, f3⟩⟩ := hS
            go_simp
            all_goals with_reducible rfl
          simp only [Act.put, List.setIfInBounds_toArray, List.set_cons_zero, List.set_cons_succ]
          refine det_take (v := ?_) (i := 8) (fuel := 45) (by simp; rfl) (by kernel_rfl) (by kernel_rfl) (by kernel_rfl) (Or.inl ⟨by rfl, fun w' hS => Or.inl ⟨w', ?_, hS⟩⟩) ?_
          rotate_left
          · obtain ⟨-, ⟨c0, c1, c2, c3⟩, ⟨e0, e1, e2, e3⟩, ⟨f0, f1, f2, f3⟩⟩ := hS
            go_simp
            all_goals with_reducible rfl
          simp only [Act.put, List.setIfInBounds_toArray, List.set_cons_zero, List.set_cons_succ]
          refine det_take (v := ?_) (i := 9) (fuel := 44) (by simp; rfl) (by kernel_rfl) (by kernel_rfl) (by kernel_rfl) (Or.inl ⟨by rfl, fun w' hS => Or.inl ⟨w', ?_, hS⟩⟩) ?_
          rotate_left
          · obtain ⟨-, ⟨c0, c1, c2, c3⟩, ⟨e0, e1, e2, e3⟩, ⟨f0, f1, f2, f3⟩⟩ := hS
            go_simp
            all_goals with_reducible rfl
          simp only [Act.put, List.setIfInBounds_toArray, List.set_cons_zero, List.set_cons_succ]
          refine det_take (v := ?_) (i := 10) (fuel := 43) (by simp; rfl) (by kernel_rfl) (by kernel_rfl) (by kernel_rfl) (Or.inl ⟨by rfl, fun w' hS => Or.inr ⟨16, #[.agg #[.int .u64 x0, .int .u64 x1, .int .u64 0, .int .u64 0], .int .i64 k], w', ?_, ?_⟩⟩) ?_
          rotate_left
          · go_simp
            all_goals with_reducible rfl
          · exact (left_u x0 x1 0 0 k l0 l1 l2 l3 _ hx0 hx1 uz uz HL).mono fun e w2 ⟨_, hv, he, hb⟩ => ⟨by rw [he, hv], mk9 (HB.below hS.1 hb)⟩
          simp only [Act.put, List.setIfInBounds_toArray, List.set_cons_zero, List.set_cons_succ]
          refine det_take (v := ?_) (i := 11) (fuel := 42) (by simp; rfl) (by kernel_rfl) (by kernel_rfl) (by kernel_rfl) (Or.inl ⟨by rfl, fun w' hS => Or.inr ⟨16, #[.agg #[.int .u64 l0, .int .u64 l1, .int .u64 l2, .int .u64 l3], .int .i64 3], w', ?_, ?_⟩⟩) ?_
          rotate_left
          · go_simp
            all_goals with_reducible rfl
          · exact (left_u l0 l1 l2 l3 3 d0 d1 d2 d3 _ hl0 hl1 hl2 hl3 HD1).mono fun e w2 ⟨_, hv, he, hb⟩ => ⟨by rw [he, hv], mk9 (HB.below hS.1 hb)⟩
          simp only [Act.put, List.setIfInBounds_toArray, List.set_cons_zero, List.set_cons_succ]
          refine det_take (v := ?_) (i := 12) (fuel := 41) (by simp; rfl) (by kernel_rfl) (by kernel_rfl) (by kernel_rfl) (Or.inl ⟨by rfl, fun w' hS => Or.inl ⟨w', ?_, hS⟩⟩) ?_
          rotate_left
          · obtain ⟨-, ⟨c0, c1, c2, c3⟩, ⟨e0, e1, e2, e3⟩, ⟨f0, f1, f2, f3⟩⟩ := hS
            go_simp
            all_goals with_reducible rfl
          simp only [Act.put, List.setIfInBounds_toArray, List.set_cons_zero, List.set_cons_succ]
          refine det_take (v := ?_) (i := 13) (fuel := 40) (by simp; rfl) (by kernel_rfl) (by kernel_rfl) (by kernel_rfl) (Or.inl ⟨by rfl, fun w' hS => Or.inl ⟨w', ?_, hS⟩⟩) ?_
          rotate_left
          · obtain ⟨-, ⟨c0, c1, c2, c3⟩, ⟨e0, e1, e2, e3⟩, ⟨f0, f1, f2, f3⟩⟩ := hS
            go_simp
            all_goals with_reducible rfl
          simp only [Act.put, List.setIfInBounds_toArray, List.set_cons_zero, List.set_cons_succ]
          refine det_take (v := ?_) (i := 14) (fuel := 39) (by simp; rfl) (by kernel_rfl) (by kernel_rfl) (by kernel_rfl) (Or.inl ⟨by rfl, fun w' hS => Or.inl ⟨w', ?_, hS⟩⟩) ?_
          rotate_left
          · obtain ⟨-, ⟨c0, c1, c2, c3⟩, ⟨e0, e1, e2, e3⟩, ⟨f0, f1, f2, f3⟩⟩ := hS
            go_simp
            all_goals with_reducible rfl
          simp only [Act.put, List.setIfInBounds_toArray, List.set_cons_zero, List.set_cons_succ]
          refine det_take (v := ?_) (i := 15) (fuel := 38) (by simp; rfl) (by kernel_rfl) (by kernel_rfl) (by kernel_rfl) (Or.inl ⟨by rfl, fun w' hS => Or.inr ⟨16, #[.agg #[.int .u64 x0, .int .u64 x1, .int .u64 0, .int .u64 0], .int .i64 (k + 3)], w', ?_, ?_⟩⟩) ?_
          rotate_left
          · go_simp
            all_goals with_reducible rfl
          · exact (left_u x0 x1 0 0 (k + 3) d0 d1 d2 d3 _ hx0 hx1 uz uz HD2).mono fun e w2 ⟨_, hv, he, hb⟩ => ⟨by rw [he, hv], mk9 (HB.below hS.1 hb)⟩
          simp only [Act.put, List.setIfInBounds_toArray, List.set_cons_zero, List.set_cons_succ]
          refine det_take (v := ?_) (i := 16) (fuel := 37) (by simp; rfl) (by kernel_rfl) (by kernel_rfl) (by kernel_rfl) (Or.inl ⟨by rfl, fun w' hS => Or.inl ⟨w', ?_, hS⟩⟩) ?_
          rotate_left
          · obtain ⟨-, ⟨c0, c1, c2, c3⟩, ⟨e0, e1, e2, e3⟩, ⟨f0, f1, f2, f3⟩⟩ := hS
            go_simp
            all_goals with_reducible rfl
          simp only [Act.put, List.setIfInBounds_toArray, List.set_cons_zero, List.set_cons_succ]
          refine det_take (v := ?_) (i := 17) (fuel := 36) (by simp; rfl) (by kernel_rfl) (by kernel_rfl) (by kernel_rfl) (Or.inl ⟨by rfl, fun w' hS => Or.inl ⟨w', ?_, hS⟩⟩) ?_
          rotate_left
          · obtain ⟨-, ⟨c0, c1, c2, c3⟩, ⟨e0, e1, e2, e3⟩, ⟨f0, f1, f2, f3⟩⟩ := hS
            go_simp
            all_goals with_reducible rfl
          simp only [Act.put, List.setIfInBounds_toArray, List.set_cons_zero, List.set_cons_succ]
          refine det_take (v := ?_) (i := 18) (fuel := 35) (by simp; rfl) (by kernel_rfl) (by kernel_rfl) (by kernel_rfl) (Or.inl ⟨by rfl, fun w' hS => Or.inl ⟨w', ?_, hS⟩⟩) ?_
          rotate_left
          · obtain ⟨-, ⟨c0, c1, c2, c3⟩, ⟨e0, e1, e2, e3⟩, ⟨f0, f1, f2, f3⟩⟩ := hS
            go_simp
            all_goals with_reducible rfl
          simp only [Act.put, List.setIfInBounds_toArray, List.set_cons_zero, List.set_cons_succ]
          refine det_take (v := ?_) (i := 19) (fuel := 34) (by simp; rfl) (by kernel_rfl) (by kernel_rfl) (by kernel_rfl) (Or.inl ⟨by rfl, fun w' hS => Or.inl ⟨w', ?_, hS⟩⟩) ?_
          rotate_left
          · obtain ⟨-, ⟨c0, c1, c2, c3⟩, ⟨e0, e1, e2, e3⟩, ⟨f0, f1, f2, f3⟩⟩ := hS
            go_simp
            all_goals with_reducible rfl
          simp only [Act.put, List.setIfInBounds_toArray, List.set_cons_zero, List.set_cons_succ]
          refine det_take (v := ?_) (i := 20) (fuel := 33) (by simp; rfl) (by kernel_rfl) (by kernel_rfl) (by kernel_rfl) (Or.inl ⟨by rfl, fun w' hS => Or.inr ⟨18, #[.agg #[.int .u64 x0, .int .u64 x1, .int .u64 0, .int .u64 0]], w', ?_, ?_⟩⟩) ?_
          rotate_left
          · go_simp
            all_goals with_reducible rfl
          · exact (bits_i x0 x1 0 0 N n _ hx0 hx1 uz uz hn4 HNn.out).mono fun e w2 ⟨_, hv, he, hb⟩ => ⟨by rw [he, hv], mk9 (HB.below hS.1 hb)⟩
          simp only [Act.put, List.setIfInBounds_toArray, List.set_cons_zero, List.set_cons_succ]
          refine det_take (v := ?_) (i := 21) (fuel := 32) (by simp; rfl) (by kernel_rfl) (by kernel_rfl) (by kernel_rfl) (Or.inl ⟨by rfl, fun w' hS => Or.inl ⟨w', ?_, hS⟩⟩) ?_
          rotate_left
          · obtain ⟨-, ⟨c0, c1, c2, c3⟩, ⟨e0, e1, e2, e3⟩, ⟨f0, f1, f2, f3⟩⟩ := hS
            go_simp
            all_goals with_reducible rfl
          simp only [Act.put, List.setIfInBounds_toArray, List.set_cons_zero, List.set_cons_succ]
          refine det_take (v := ?_) (i := 22) (fuel := 31) (by simp; rfl) (by kernel_rfl) (by kernel_rfl) (by kernel_rfl) (Or.inl ⟨by rfl, fun w' hS => Or.inl ⟨w', ?_, hS⟩⟩) ?_
          rotate_left
          · obtain ⟨-, ⟨c0, c1, c2, c3⟩, ⟨e0, e1, e2, e3⟩, ⟨f0, f1, f2, f3⟩⟩ := hS
            go_simp
            all_goals with_reducible rfl
          simp only [Act.put, List.setIfInBounds_toArray, List.set_cons_zero, List.set_cons_succ]
          refine det_take (v := undef) (i := 23) (fuel := 30) (by simp; rfl) (by kernel_rfl) (by kernel_rfl) (by kernel_rfl) (Or.inr ⟨by rfl, rfl⟩) ?_
          simp only [Act.put, List.setIfInBounds_toArray, List.set_cons_zero, List.set_cons_succ]
          refine det_take (v := undef) (i := 24) (fuel := 29) (by simp; rfl) (by kernel_rfl) (by kernel_rfl) (by kernel_rfl) (Or.inr ⟨by rfl, rfl⟩) ?_
          simp only [Act.put, List.setIfInBounds_toArray, List.set_cons_zero, List.set_cons_succ]
          refine det_take (v := undef) (i := 25) (fuel := 28) (by simp; rfl) (by kernel_rfl) (by kernel_rfl) (by kernel_rfl) (Or.inr ⟨by rfl, rfl⟩) ?_
          simp only [Act.put, List.setIfInBounds_toArray, List.set_cons_zero, List.set_cons_succ]
          refine det_take (v := ?_) (i := 26) (fuel := 27) (by simp; rfl) (by kernel_rfl) (by kernel_rfl) (by kernel_rfl) (Or.inl ⟨by rfl, fun w' hS => Or.inl ⟨w', ?_, hS⟩⟩) ?_
          rotate_left
          · obtain ⟨-, ⟨c0, c1, c2, c3⟩, ⟨e0, e1, e2, e3⟩, ⟨f0, f1, f2, f3⟩⟩ := hS
            go_simp
            all_goals with_reducible rfl
          simp only [Act.put, List.setIfInBounds_toArray, List.set_cons_zero, List.set_cons_succ]
          refine det_take (v := ?_) (i := 27) (fuel := 26) (by simp; rfl) (by kernel_rfl) (by kernel_rfl) (by kernel_rfl) (Or.inl ⟨by rfl, fun w' hS => Or.inl ⟨w', ?_, hS⟩⟩) ?_
          rotate_left
          · obtain ⟨-, ⟨c0, c1, c2, c3⟩, ⟨e0, e1, e2, e3⟩, ⟨f0, f1, f2, f3⟩⟩ := hS
            go_simp
            all_goals with_reducible rfl
          simp only [Act.put, List.setIfInBounds_toArray, List.set_cons_zero, List.set_cons_succ]
          refine det_take (v := ?_) (i := 28) (fuel := 25) (by simp; rfl) (by kernel_rfl) (by kernel_rfl) (by kernel_rfl) (Or.inl ⟨by rfl, fun w' hS => Or.inl ⟨w', ?_, hS⟩⟩) ?_
          rotate_left
          · obtain ⟨-, ⟨c0, c1, c2, c3⟩, ⟨e0, e1, e2, e3⟩, ⟨f0, f1, f2, f3⟩⟩ := hS
            go_simp
            all_goals with_reducible rfl
          simp only [Act.put, List.setIfInBounds_toArray, List.set_cons_zero, List.set_cons_succ]
          refine det_take (v := ?_) (i := 29) (fuel := 24) (by simp; rfl) (by kernel_rfl) (by kernel_rfl) (by kernel_rfl) (Or.inl ⟨by rfl, fun w' hS => Or.inl ⟨w', ?_, hS⟩⟩) ?_
          rotate_left
          · obtain ⟨-, ⟨c0, c1, c2, c3⟩, ⟨e0, e1, e2, e3⟩, ⟨f0, f1, f2, f3⟩⟩ := hS
            go_simp
            all_goals with_reducible rfl
          simp only [Act.put, List.setIfInBounds_toArray, List.set_cons_zero, List.set_cons_succ]
          refine det_take (v := ?_) (i := 30) (fuel := 23) (by simp; rfl) (by kernel_rfl) (by kernel_rfl) (by kernel_rfl) (Or.inl ⟨by rfl, fun w' hS => Or.inr ⟨18, #[.agg #[.int .u64 x0, .int .u64 x1, .int .u64 0, .int .u64 0]], w', ?_, ?_⟩⟩) ?_
          rotate_left
          · go_simp
            all_goals with_reducible rfl
          · exact (bits_i x0 x1 0 0 N n _ hx0 hx1 uz uz hn4 HNn.out).mono fun e w2 ⟨_, hv, he, hb⟩ => ⟨by rw [he, hv], mk9 (HB.below hS.1 hb)⟩
          simp only [Act.put, List.setIfInBounds_toArray, List.set_cons_zero, List.set_cons_succ]
          refine det_take (v := ?_) (i := 31) (fuel := 22) (by simp; rfl) (by kernel_rfl) (by kernel_rfl) (by kernel_rfl) (Or.inl ⟨by rfl, fun w' hS => Or.inr ⟨17, #[.agg #[.int .u64 x0, .int .u64 x1, .int .u64 0, .int .u64 0], .int .i64 N], w', ?_, ?_⟩⟩) ?_
          rotate_left
          · go_simp
            all_goals with_reducible rfl
          · exact (right_u x0 x1 0 0 N 0 0 0 0 _ hx0 hx1 uz uz HR0).mono fun e w2 ⟨_, hv, he, hb⟩ => ⟨by rw [he, hv], mk9 (HB.below hS.1 hb)⟩
          simp only [Act.put, List.setIfInBounds_toArray, List.set_cons_zero, List.set_cons_succ]
          refine det_take (v := ?_) (i := 32) (fuel := 21) (by simp; rfl) (by kernel_rfl) (by kernel_rfl) (by kernel_rfl) (Or.inl ⟨by rfl, fun w' hS => Or.inl ⟨w', ?_, hS⟩⟩) ?_
          rotate_left
          · obtain ⟨-, ⟨c0, c1, c2, c3⟩, ⟨e0, e1, e2, e3⟩, ⟨f0, f1, f2, f3⟩⟩ := hS
            go_simp
            all_goals with_reducible rfl
          simp only [Act.put, List.setIfInBounds_toArray, List.set_cons_zero, List.set_cons_succ]
          refine det_take (v := ?_) (i := 33) (fuel := 20) (by simp; rfl) (by kernel_rfl) (by kernel_rfl) (by kernel_rfl) (Or.inl ⟨by rfl, fun w' hS => Or.inl ⟨w', ?_, hS⟩⟩) ?_
          rotate_left
          · obtain ⟨-, ⟨c0, c1, c2, c3⟩, ⟨e0, e1, e2, e3⟩, ⟨f0, f1, f2, f3⟩⟩ := hS
            go_simp
            all_goals with_reducible rfl
          simp only [Act.put, List.setIfInBounds_toArray, List.set_cons_zero, List.set_cons_succ]
          refine det_take (v := ?_) (i := 34) (fuel := 19) (by simp; rfl) (by kernel_rfl) (by kernel_rfl) (by kernel_rfl) (Or.inl ⟨by rfl, fun w' hS => Or.inl ⟨w', ?_, hS⟩⟩) ?_
          rotate_left
          · obtain ⟨-, ⟨c0, c1, c2, c3⟩, ⟨e0, e1, e2, e3⟩, ⟨f0, f1, f2, f3⟩⟩ := hS
            go_simp
            all_goals with_reducible rfl
          simp only [Act.put, List.setIfInBounds_toArray, List.set_cons_zero, List.set_cons_succ]
          refine det_take (v := ?_) (i := 35) (fuel := 18) (by simp; rfl) (by kernel_rfl) (by kernel_rfl) (by kernel_rfl) (Or.inl ⟨by rfl, fun w' hS => Or.inl ⟨w', ?_, hS⟩⟩) ?_
          rotate_left
          · obtain ⟨-, ⟨c0, c1, c2, c3⟩, ⟨e0, e1, e2, e3⟩, ⟨f0, f1, f2, f3⟩⟩ := hS
            go_simp
            all_goals with_reducible rfl
          simp only [Act.put, List.setIfInBounds_toArray, List.set_cons_zero, List.set_cons_succ]
          refine det_take (v := ?_) (i := 36) (fuel := 17) (by simp; rfl) (by kernel_rfl) (by kernel_rfl) (by kernel_rfl) (Or.inl ⟨by rfl, fun w' hS => Or.inl ⟨w', ?_, hS⟩⟩) ?_
          rotate_left
          · obtain ⟨-, ⟨c0, c1, c2, c3⟩, ⟨e0, e1, e2, e3⟩, ⟨f0, f1, f2, f3⟩⟩ := hS
            go_simp
            all_goals with_reducible rfl
          simp only [Act.put, List.setIfInBounds_toArray, List.set_cons_zero, List.set_cons_succ]
          refine det_take (v := ?_) (i := 37) (fuel := 16) (by simp; rfl) (by kernel_rfl) (by kernel_rfl) (by kernel_rfl) (Or.inl ⟨by rfl, fun w' hS => Or.inr ⟨18, #[.agg #[.int .u64 x0, .int .u64 x1, .int .u64 0, .int .u64 0]], w', ?_, ?_⟩⟩) ?_
          rotate_left
          · go_simp
            all_goals with_reducible rfl
          · exact (bits_i x0 x1 0 0 N n _ hx0 hx1 uz uz hn4 HNn.out).mono fun e w2 ⟨_, hv, he, hb⟩ => ⟨by rw [he, hv], mk9 (HB.below hS.1 hb)⟩
          simp only [Act.put, List.setIfInBounds_toArray, List.set_cons_zero, List.set_cons_succ]
          refine det_take (v := ?_) (i := 38) (fuel := 15) (by simp; rfl) (by kernel_rfl) (by kernel_rfl) (by kernel_rfl) (Or.inl ⟨by rfl, fun w' hS => Or.inl ⟨w', ?_, hS⟩⟩) ?_
          rotate_left
          · obtain ⟨-, ⟨c0, c1, c2, c3⟩, ⟨e0, e1, e2, e3⟩, ⟨f0, f1, f2, f3⟩⟩ := hS
            go_simp
            all_goals with_reducible rfl
          simp only [Act.put, List.setIfInBounds_toArray, List.set_cons_zero, List.set_cons_succ]
          refine det_take (v := ?_) (i := 39) (fuel := 14) (by simp; rfl) (by kernel_rfl) (by kernel_rfl) (by kernel_rfl) (Or.inl ⟨by rfl, fun w' hS => Or.inr ⟨17, #[.agg #[.int .u64 x0, .int .u64 x1, .int .u64 0, .int .u64 0], .int .i64 (N - 1)], w', ?_, ?_⟩⟩) ?_
          rotate_left
          · go_simp
            all_goals with_reducible rfl
          · exact (right_u x0 x1 0 0 (N - 1) 1 0 0 0 _ hx0 hx1 uz uz HR1).mono fun e w2 ⟨_, hv, he, hb⟩ => ⟨by rw [he, hv], mk9 (HB.below hS.1 hb)⟩
          simp only [Act.put, List.setIfInBounds_toArray, List.set_cons_zero, List.set_cons_succ]
          refine det_take (v := ?_) (i := 40) (fuel := 13) (by simp; rfl) (by kernel_rfl) (by kernel_rfl) (by kernel_rfl) (Or.inl ⟨by rfl, fun w' hS => Or.inl ⟨w', ?_, hS⟩⟩) ?_
          rotate_left
          · obtain ⟨-, ⟨c0, c1, c2, c3⟩, ⟨e0, e1, e2, e3⟩, ⟨f0, f1, f2, f3⟩⟩ := hS
            go_simp
            all_goals with_reducible rfl
          simp only [Act.put, List.setIfInBounds_toArray, List.set_cons_zero, List.set_cons_succ]
          refine det_take (v := ?_) (i := 41) (fuel := 12) (by simp; rfl) (by kernel_rfl) (by kernel_rfl) (by kernel_rfl) (Or.inl ⟨by rfl, fun w' hS => Or.inl ⟨w', ?_, hS⟩⟩) ?_
          rotate_left
          · obtain ⟨-, ⟨c0, c1, c2, c3⟩, ⟨e0, e1, e2, e3⟩, ⟨f0, f1, f2, f3⟩⟩ := hS
            go_simp
            all_goals with_reducible rfl
          simp only [Act.put, List.setIfInBounds_toArray, List.set_cons_zero, List.set_cons_succ]
          refine det_take (v := ?_) (i := 42) (fuel := 11) (by simp; rfl) (by kernel_rfl) (by kernel_rfl) (by kernel_rfl) (Or.inl ⟨by rfl, fun w' hS => Or.inl ⟨w', ?_, hS⟩⟩) ?_
          rotate_left
          · obtain ⟨-, ⟨c0, c1, c2, c3⟩, ⟨e0, e1, e2, e3⟩, ⟨f0, f1, f2, f3⟩⟩ := hS
            go_simp
            all_goals with_reducible rfl
          simp only [Act.put, List.setIfInBounds_toArray, List.set_cons_zero, List.set_cons_succ]
          refine det_take (v := ?_) (i := 43) (fuel := 10) (by simp; rfl) (by kernel_rfl) (by kernel_rfl) (by kernel_rfl) (Or.inl ⟨by rfl, fun w' hS => Or.inl ⟨w', ?_, hS⟩⟩) ?_
          rotate_left
          · obtain ⟨-, ⟨c0, c1, c2, c3⟩, ⟨e0, e1, e2, e3⟩, ⟨f0, f1, f2, f3⟩⟩ := hS
            go_simp
            all_goals with_reducible rfl
          simp only [Act.put, List.setIfInBounds_toArray, List.set_cons_zero, List.set_cons_succ]
          refine det_take (v := ?_) (i := 44) (fuel := 9) (by simp; rfl) (by kernel_rfl) (by kernel_rfl) (by kernel_rfl) (Or.inl ⟨by rfl, fun w' hS => Or.inl ⟨w', ?_, hS⟩⟩) ?_
          rotate_left
          · obtain ⟨-, ⟨c0, c1, c2, c3⟩, ⟨e0, e1, e2, e3⟩, ⟨f0, f1, f2, f3⟩⟩ := hS
            go_simp
            all_goals with_reducible rfl
          simp only [Act.put, List.setIfInBounds_toArray, List.set_cons_zero, List.set_cons_succ]
          refine det_take (v := ?_) (i := 45) (fuel := 8) (by simp; rfl) (by kernel_rfl) (by kernel_rfl) (by kernel_rfl) (Or.inl ⟨by rfl, fun w' hS => Or.inl ⟨w', ?_, hS⟩⟩) ?_
          rotate_left
          · obtain ⟨-, ⟨c0, c1, c2, c3⟩, ⟨e0, e1, e2, e3⟩, ⟨f0, f1, f2, f3⟩⟩ := hS
            go_simp
            all_goals with_reducible rfl
          simp only [Act.put, List.setIfInBounds_toArray, List.set_cons_zero, List.set_cons_succ]
          refine det_take (v := ?_) (i := 46) (fuel := 7) (by simp; rfl) (by kernel_rfl) (by kernel_rfl) (by kernel_rfl) (Or.inl ⟨by rfl, fun w' hS => Or.inl ⟨w', ?_, hS⟩⟩) ?_
          rotate_left
          · obtain ⟨-, ⟨c0, c1, c2, c3⟩, ⟨e0, e1, e2, e3⟩, ⟨f0, f1, f2, f3⟩⟩ := hS
            go_simp
            all_goals with_reducible rfl
          simp only [Act.put, List.setIfInBounds_toArray, List.set_cons_zero, List.set_cons_succ]
          refine det_take (v := ?_) (i := 47) (fuel := 6) (by simp; rfl) (by kernel_rfl) (by kernel_rfl) (by kernel_rfl) (Or.inl ⟨by rfl, fun w' hS => Or.inr ⟨18, #[.agg #[.int .u64 o0, .int .u64 o1, .int .u64 o2, .int .u64 o3]], w', ?_, ?_⟩⟩) ?_
          rotate_left
          · go_simp
            all_goals with_reducible rfl
          · exact (bits_i o0 o1 o2 o3 (N + 1) (n + 1) _ ho0 ho1 ho2 ho3 HOn HO1h.out).mono fun e w2 ⟨_, hv, he, hb⟩ => ⟨by rw [he, hv], mk9 (HB.below hS.1 hb)⟩
          simp only [Act.put, List.setIfInBounds_toArray, List.set_cons_zero, List.set_cons_succ]
          refine det_take (v := ?_) (i := 48) (fuel := 5) (by simp; rfl) (by kernel_rfl) (by kernel_rfl) (by kernel_rfl) (Or.inl ⟨by rfl, fun w' hS => Or.inl ⟨w', ?_, hS⟩⟩) ?_
          rotate_left
          · obtain ⟨-, ⟨c0, c1, c2, c3⟩, ⟨e0, e1, e2, e3⟩, ⟨f0, f1, f2, f3⟩⟩ := hS
            go_simp
            all_goals with_reducible rfl
          simp only [Act.put, List.setIfInBounds_toArray, List.set_cons_zero, List.set_cons_succ]
          refine det_take (v := ?_) (i := 49) (fuel := 4) (by simp; rfl) (by kernel_rfl) (by kernel_rfl) (by kernel_rfl) (Or.inl ⟨by rfl, fun w' hS => Or.inr ⟨18, #[.agg #[.int .u64 x0, .int .u64 x1, .int .u64 0, .int .u64 0]], w', ?_, ?_⟩⟩) ?_
          rotate_left
          · go_simp
            all_goals with_reducible rfl
          · exact (bits_i x0 x1 0 0 N n _ hx0 hx1 uz uz hn4 HNn.out).mono fun e w2 ⟨_, hv, he, hb⟩ => ⟨by rw [he, hv], mk9 (HB.below hS.1 hb)⟩
          simp only [Act.put, List.setIfInBounds_toArray, List.set_cons_zero, List.set_cons_succ]
          refine det_take (v := ?_) (i := 50) (fuel := 3) (by simp; rfl) (by kernel_rfl) (by kernel_rfl) (by kernel_rfl) (Or.inl ⟨by rfl, fun w' hS => Or.inl ⟨w', ?_, hS⟩⟩) ?_
          rotate_left
          · obtain ⟨-, ⟨c0, c1, c2, c3⟩, ⟨e0, e1, e2, e3⟩, ⟨f0, f1, f2, f3⟩⟩ := hS
            go_simp
            all_goals with_reducible rfl
          simp only [Act.put, List.setIfInBounds_toArray, List.set_cons_zero, List.set_cons_succ]
          refine det_take (v := ?_) (i := 51) (fuel := 2) (by simp; rfl) (by kernel_rfl) (by kernel_rfl) (by kernel_rfl) (Or.inl ⟨by rfl, fun w' hS => Or.inl ⟨w', ?_, hS⟩⟩) ?_
          rotate_left
          · obtain ⟨-, ⟨c0, c1, c2, c3⟩, ⟨e0, e1, e2, e3⟩, ⟨f0, f1, f2, f3⟩⟩ := hS
            go_simp
            all_goals with_reducible rfl
          simp only [Act.put, List.setIfInBounds_toArray, List.set_cons_zero, List.set_cons_succ]
          refine det_take (v := ?_) (i := 52) (fuel := 1) (by simp; rfl) (by kernel_rfl) (by kernel_rfl) (by kernel_rfl) (Or.inl ⟨by rfl, fun w' hS => Or.inl ⟨w', ?_, hS⟩⟩) ?_
          rotate_left
          · obtain ⟨-, ⟨c0, c1, c2, c3⟩, ⟨e0, e1, e2, e3⟩, ⟨f0, f1, f2, f3⟩⟩ := hS
            go_simp
            all_goals with_reducible rfl
          simp only [Act.put, List.setIfInBounds_toArray, List.set_cons_zero, List.set_cons_succ]
          refine det_take (v := ?_) (i := 53) (fuel := 0) (by simp; rfl) (by kernel_rfl) (by kernel_rfl) (by kernel_rfl) (Or.inl ⟨by rfl, fun w' hS => Or.inl ⟨w', ?_, hS⟩⟩) ?_
          rotate_left
          · obtain ⟨-, ⟨c0, c1, c2, c3⟩, ⟨e0, e1, e2, e3⟩, ⟨f0, f1, f2, f3⟩⟩ := hS
            go_simp
            all_goals with_reducible rfl
          simp only [Act.put, List.setIfInBounds_toArray, List.set_cons_zero, List.set_cons_succ]
          refine det_done (by kernel_rfl) (fun w' hS => ?_) _
          go_wp2
          go_ret
          exact ⟨rfl, hS.1.1⟩

set_option maxRecDepth 100000 in
theorem lifted (os : Os) (started : os.Started) (H : Type) (enc : TypeId × Value → H) :
    ReturnsInHanded {} Try.checked os 6 .any (Rows.limbShiftsSpec.pre6 enc Try.prog Try.f6 Rows.limbShiftsRow.domain false) (Rows.limbShiftsSpec.post enc Try.prog Try.f6 false true false false) := by
  refine returnsInHanded_of_change (C := Try.checked) own started (by kernel_rfl) Try.func6
    (ChangeSpec.witness6 (enc := enc) (C := Try.checked) false ⟨#[], #[.int .u64 0, .int .u64 0, .int .i64 0, .int .i64 0], []⟩ 8 (by kernel_rfl) (by kernel_rfl) (by kernel_rfl) (by kernel_rfl)) ?_
  intro W base args ds gs before hval0 hW hcnd _
  have hval : ∀ (j : Nat) t v, Try.f6.params[j]? = some t → args[j]? = some v → Value.okWide Try.prog W .any base t v := hval0
  have hW' := hW
  obtain ⟨p, q, hA0, hV, rfl, hfz, hnd⟩ := hW
  have hA : DataW.TrodAll enc Try.prog W 0 (fun _ => true) true Try.f6.params.toList args.toList ds p := hA0
  rw [Try.params6] at hA hval
  obtain ⟨v0, vs0, d0, ds0, p0, q0, hargs, rfl, rfl, h0, r0⟩ := trodAll_cons hA
  obtain ⟨v1, vs1, d1, ds1, p1, q1, rfl, rfl, rfl, h1, r1⟩ := trodAll_cons r0
  obtain ⟨v2, vs2, d2, ds2, p2, q2, rfl, rfl, rfl, h2, r2⟩ := trodAll_cons r1
  obtain ⟨v3, vs3, d3, ds3, p3, q3, rfl, rfl, rfl, h3, r3⟩ := trodAll_cons r2
  obtain ⟨rfl, rfl, rfl⟩ := trodAll_nil r3
  obtain rfl : args = #[v0, v1, v2, v3] := by cases args; simp_all
  obtain ⟨rfl, rfl⟩ := trodVars_none hV
  obtain ⟨a0, rfl, rfl, rfl, w0⟩ := open_int Try.underlying22 (hval 0 22 v0 rfl rfl) h0
  obtain ⟨a1, rfl, rfl, rfl, w1⟩ := open_int Try.underlying22 (hval 1 22 v1 rfl rfl) h1
  obtain ⟨a2, rfl, rfl, rfl, w2⟩ := open_int Try.underlying3 (hval 2 3 v2 rfl rfl) h2
  obtain ⟨a3, rfl, rfl, rfl, w3⟩ := open_int Try.underlying3 (hval 3 3 v3 rfl rfl) h3
  clear hA0 hval0
  simp only [List.append_nil] at hW'
  refine (walk a0 a1 a2 a3 w0 w1 w2 w3 W).mono fun e W' ⟨he, hg⟩ => ?_
  subst he
  exact ⟨_, rfl, post_bel (pa := []) (pv := []) hW' (fun _ _ _ => (trodAll_cons_mk (shut_bool Try.underlying4 _) trodAll_mk0)) (fun sp _ => (trodAll_cons_mk (shut_int Try.underlying22 w0) (trodAll_cons_mk (shut_int Try.underlying22 w1) (trodAll_cons_mk (shut_int Try.underlying3 w2) (trodAll_cons_mk (shut_int Try.underlying3 w3) trodAll_mk0))))) (fun _ _ => rfl) rfl
    hg (ok_one (by kernel_rfl) rfl (okWide_bool_mk Try.underlying4 _))⟩

theorem over : Rows.limbShiftsRow.holds Try.pinned (OpenSpec.ofChange Rows.limbShiftsSpec) :=
  OpenClaim.holds_of_wide 6 Try.f6 rfl rfl rfl rfl rfl rfl rfl ⟨rfl, rfl, rfl, rfl, rfl⟩ rfl rfl rfl rfl rfl (by kernel_rfl) Try.func6 (by kernel_rfl)
    (of_decide_eq_true (by kernel_rfl)) (by unfold Func.isWrapper; first | (rw [if_pos (by decide +kernel)]; kernel_rfl) | (rw [if_neg (by decide +kernel)]; exact ⟨rfl, rfl⟩))
    (fun os started H enc _ => lifted os started H enc)

/-- The given statement. -/
theorem proved : Rows.LimbShiftsSaid :=
  over
#print axioms proved
end Go.Proofs.Ytipkchgibomgkaa.limbShifts

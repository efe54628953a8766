/- 'LimbKnown', a closed sentence, returns true. No condition. -/
import Derived.Test.YtipkchgibomgkaaRows
import Derived.WalkKit
import Derived.ProofKit
import Derived.OpenShut
import Derived.Test.YtipkchgibomgkaaKnownA
import Derived.Test.YtipkchgibomgkaaPost
namespace Go.Proofs.Ytipkchgibomgkaa.limbKnown
open Go.ChangeShapes Go.WideShapes Go.ChangeAt Go.RowKit
set_option linter.unusedVariables false

theorem own : ownKnob Try.prog.godebug = none := by kernel_rfl

set_option maxRecDepth 100000 in
set_option maxHeartbeats 6400000 in
theorem walk (w : World) :
    Calls Try.prog 3 #[] w fun e w' => e = .returned (.bool true) ∧ Below w.heap.size w w' := by
  have n1 : wrap64 (-1) = -1 := by unfold wrap64; omega
  go_enter Try.func3, Try.ntmps3
  go_wp2_with fail
  refine (of_c 1 _).mono ?_
  rintro e v1 ⟨_, rfl, rfl, hb⟩
  have W := HB.start hb
  clear hb
  go_wp2_with fail
  refine (add_c 18446744073709551615 1 1 0 _ u64_full u64_1 u64_1 u64_0).mono ?_
  rintro e v2 ⟨_, ⟨x, y, p, H, rfl⟩, rfl, hb⟩
  replace W := W.below hb
  clear hb
  obtain ⟨rfl, rfl, rfl⟩ := k1 H
  clear H
  go_wp2_with fail
  refine (of_c 1 _).mono ?_
  rintro e v3 ⟨_, rfl, rfl, hb⟩
  replace W := (W.push #[.int .u64 0, .int .u64 2] 23).below hb
  clear hb
  go_wp2_with fail
  refine (add_c 18446744073709551615 18446744073709551615 1 0 _ u64_full u64_full u64_1 u64_0).mono ?_
  rintro e v4 ⟨_, ⟨x, y, p, H, rfl⟩, rfl, hb⟩
  replace W := W.below hb
  clear hb
  obtain ⟨rfl, rfl, rfl⟩ := k2 H
  clear H
  go_wp2_with fail
  refine (of_c 1 _).mono ?_
  rintro e v5 ⟨_, rfl, rfl, hb⟩
  replace W := (W.push #[.int .u64 0, .int .u64 0] 23).below hb
  clear hb
  go_wp2_with fail
  refine (sub_c 0 1 1 0 _ u64_0 u64_1 u64_1 u64_0).mono ?_
  rintro e v6 ⟨_, ⟨x, y, p, H, rfl⟩, rfl, hb⟩
  replace W := W.below hb
  clear hb
  obtain ⟨rfl, rfl, rfl⟩ := k3 H
  clear H
  go_wp2_with fail
  refine (of_c 1 _).mono ?_
  rintro e v7 ⟨_, rfl, rfl, hb⟩
  replace W := (W.push #[.int .u64 18446744073709551615, .int .u64 0] 23).below hb
  clear hb
  go_wp2_with fail
  refine (of_c 2 _).mono ?_
  rintro e v8 ⟨_, rfl, rfl, hb⟩
  replace W := W.below hb
  clear hb
  go_wp2_with fail
  refine (sub_c 1 0 2 0 _ u64_1 u64_0 u64_2 u64_0).mono ?_
  rintro e v9 ⟨_, ⟨x, y, p, H, rfl⟩, rfl, hb⟩
  replace W := W.below hb
  clear hb
  obtain ⟨rfl, rfl, rfl⟩ := k4 H
  clear H
  go_wp2_with fail
  refine (div_c 1 0 1 0 0 1 _ u64_1 u64_0 u64_1 u64_0 u64_0 u64_1).mono ?_
  rintro e v10 ⟨_, ⟨q0, q1, q2, q3, r0, r1, p, H, rfl⟩, rfl, hb⟩
  replace W := (W.push #[.int .u64 0, .int .u64 0] 23).below hb
  clear hb
  obtain ⟨rfl, rfl, rfl, rfl, rfl, rfl, rfl⟩ := k5 H
  clear H
  go_wp2_with fail
  refine (div_c 1 0 0 0 0 0 _ u64_1 u64_0 u64_0 u64_0 u64_0 u64_0).mono ?_
  rintro e v11 ⟨_, ⟨q0, q1, q2, q3, r0, r1, p, H, rfl⟩, rfl, hb⟩
  replace W := ((W.push #[.int .u64 0, .int .u64 1, .int .u64 0, .int .u64 0] 27).push #[.int .u64 1, .int .u64 0] 23).below hb
  clear hb
  obtain ⟨rfl, rfl, rfl, rfl, rfl, rfl, rfl⟩ := k6 H
  clear H
  go_wp2_with fail
  refine (ten_c 20 _).mono ?_
  rintro e v12 ⟨_, ⟨x, y, p, H, rfl⟩, rfl, hb⟩
  replace W := ((W.push #[.int .u64 0, .int .u64 0, .int .u64 0, .int .u64 0] 27).push #[.int .u64 0, .int .u64 0] 23).below hb
  clear hb
  obtain ⟨rfl, rfl, rfl⟩ := k7 H
  clear H
  go_wp2_with fail
  refine (ten_c 39 _).mono ?_
  rintro e v13 ⟨_, ⟨x, y, p, H, rfl⟩, rfl, hb⟩
  replace W := (W.push #[.int .u64 7766279631452241920, .int .u64 5] 23).below hb
  clear hb
  obtain ⟨rfl, rfl, rfl⟩ := k8 H
  clear H
  go_wp2_with fail
  refine (short_c 1 2 3 0 _).mono ?_
  rintro e v14 ⟨_, ⟨x, y, p, H, rfl⟩, rfl, hb⟩
  replace W := (W.push #[.int .u64 0, .int .u64 0] 23).below hb
  clear hb
  obtain ⟨rfl, rfl, rfl⟩ := k9 H
  clear H
  go_wp2_with fail
  refine (known_c _).mono ?_
  rintro e v15 ⟨_, rfl, rfl, hb⟩
  replace W := (W.push #[.int .u64 0, .int .u64 0] 23).below hb
  clear hb
  obtain ⟨a0, a1⟩ := (HB.two (t := 23) (g := v2.heap.size) (a := .int .u64 0) (b := .int .u64 2) W (by simp)).2
  obtain ⟨b0, b1⟩ := (HB.two (t := 23) (g := v6.heap.size) (a := .int .u64 18446744073709551615) (b := .int .u64 0) W (by simp)).2
  obtain ⟨x0, x1, x2, x3⟩ := (HB.four (t := 27) (g := v10.heap.size) (a := .int .u64 0) (b := .int .u64 1) (c := .int .u64 0) (d := .int .u64 0) W (by simp)).2
  obtain ⟨y0, y1⟩ := (HB.two (t := 23) (g := v10.heap.size + 1) (a := .int .u64 1) (b := .int .u64 0) W (by simp)).2
  obtain ⟨u0, u1⟩ := (HB.two (t := 23) (g := v12.heap.size) (a := .int .u64 7766279631452241920) (b := .int .u64 5) W (by simp)).2
  obtain ⟨z0, z1⟩ := (HB.two (t := 23) (g := v14.heap.size) (a := .int .u64 0) (b := .int .u64 0) W (by simp)).2
  replace W := W.bel
  have g1 : eqW2 0 2 0 2 = true := eqW2_yes ⟨rfl, rfl⟩
  have g2 : eqW2 18446744073709551615 0 18446744073709551615 0 = true := eqW2_yes ⟨rfl, rfl⟩
  have g3 : eqW4 0 1 0 0 0 1 0 0 = true := eqW4_yes ⟨rfl, rfl, rfl, rfl⟩
  have g4 : eqW2 1 0 1 0 = true := eqW2_yes ⟨rfl, rfl⟩
  have g5 : eqW2 7766279631452241920 5 7766279631452241920 5 = true := eqW2_yes ⟨rfl, rfl⟩
  have g6 : eqW2 0 0 0 0 = true := eqW2_yes ⟨rfl, rfl⟩
  go_wp2_with fail
  refine (left_c 3 0 0 0 255 _ u64_3 u64_0 u64_0 u64_0).mono ?_
  rintro e r1 ⟨_, ⟨c0, c1, c2, c3, H, rfl⟩, rfl, hb⟩
  replace W := W.trans (hb.mono W.size)
  clear hb
  have q1 := kl1 H
  go_wp2_with fail
  refine (left_c 3 0 0 0 256 _ u64_3 u64_0 u64_0 u64_0).mono ?_
  rintro e r2 ⟨_, ⟨c0, c1, c2, c3, H, rfl⟩, rfl, hb⟩
  replace W := W.trans (hb.mono W.size)
  clear hb
  have q2 := kl2 H
  go_wp2_with fail
  refine (right_c 0 0 0 9223372036854775808 255 _ u64_0 u64_0 u64_0 u64_top).mono ?_
  rintro e r3 ⟨_, ⟨c0, c1, c2, c3, H, rfl⟩, rfl, hb⟩
  replace W := W.trans (hb.mono W.size)
  clear hb
  have q3 := kr1 H
  go_wp2_with fail
  refine (right_c 5 9 0 0 (-3) _ u64_5 u64_9 u64_0 u64_0).mono ?_
  rintro e r4 ⟨_, ⟨c0, c1, c2, c3, H, rfl⟩, rfl, hb⟩
  replace W := W.trans (hb.mono W.size)
  clear hb
  have q4 := kr2 H
  go_wp2_with fail
  refine (bits_c 0 0 0 0 _ u64_0 u64_0 u64_0 u64_0).mono ?_
  rintro e r5 ⟨_, ⟨n, _, H, rfl⟩, rfl, hb⟩
  replace W := W.trans (hb.mono W.size)
  clear hb
  obtain rfl := kb1 H
  go_wp2_with fail
  refine (bits_c 0 1 0 0 _ u64_0 u64_1 u64_0 u64_0).mono ?_
  rintro e r6 ⟨_, ⟨n, _, H, rfl⟩, rfl, hb⟩
  replace W := W.trans (hb.mono W.size)
  clear hb
  obtain rfl := kb2 H
  go_wp2_with fail
  refine (of_c 2 _).mono ?_
  rintro e r7 ⟨_, rfl, rfl, hb⟩
  replace W := W.trans (hb.mono W.size)
  clear hb
  go_wp2_with fail
  refine (cmp_c 2 0 0 1 _ u64_2 u64_0 u64_0 u64_1).mono ?_
  rintro e r8 ⟨_, rfl, rfl, hb⟩
  replace W := W.trans (hb.mono W.size)
  clear hb
  rw [kc1]
  go_wp2_with fail
  refine (of_c 2 _).mono ?_
  rintro e r9 ⟨_, rfl, rfl, hb⟩
  replace W := W.trans (hb.mono W.size)
  clear hb
  go_wp2_with fail
  refine (of_c 2 _).mono ?_
  rintro e r10 ⟨_, rfl, rfl, hb⟩
  replace W := W.trans (hb.mono W.size)
  clear hb
  go_wp2_with fail
  refine (cmp_c 2 0 2 0 _ u64_2 u64_0 u64_2 u64_0).mono ?_
  rintro e r11 ⟨_, rfl, rfl, hb⟩
  replace W := W.trans (hb.mono W.size)
  clear hb
  rw [kc2]
  go_wp2_with fail
  refine (wide_c 4 5 _).mono ?_
  rintro e r12 ⟨_, rfl, rfl, hb⟩
  replace W := W.trans (hb.mono W.size)
  clear hb
  have g7 : eqW4 4 5 0 0 4 5 0 0 = true := eqW4_yes ⟨rfl, rfl, rfl, rfl⟩
  go_wp2
  go_ret
  exact ⟨rfl, W⟩

set_option maxRecDepth 100000 in
theorem lifted (os : Os) (started : os.Started) (H : Type) (enc : TypeId × Value → H) :
    ReturnsInHanded {} Try.checked os 3 .any (Rows.limbKnownSpec.pre6 enc Try.prog Try.f3 Rows.limbKnownRow.domain false) (Rows.limbKnownSpec.post enc Try.prog Try.f3 false true false false) := by
  refine returnsInHanded_of_change (C := Try.checked) own started (by kernel_rfl) Try.func3
    (ChangeSpec.witness6 (enc := enc) (C := Try.checked) false ⟨#[], #[], []⟩ 8 (by kernel_rfl) (by kernel_rfl) (by kernel_rfl) (by kernel_rfl)) ?_
  intro W base args ds gs before hval0 hW hcnd _
  have hval : ∀ (j : Nat) t v, Try.f3.params[j]? = some t → args[j]? = some v → Value.okWide Try.prog W .any base t v := hval0
  have hW' := hW
  obtain ⟨p, q, hA0, hV, rfl, hfz, hnd⟩ := hW
  have hA : DataW.TrodAll enc Try.prog W 0 (fun _ => true) true Try.f3.params.toList args.toList ds p := hA0
  rw [Try.params3] at hA hval
  obtain ⟨rfl, rfl, rfl⟩ := trodAll_none hA
  obtain ⟨rfl, rfl⟩ := trodVars_none hV
  clear hA0 hval0
  simp only [List.append_nil] at hW'
  refine (walk  W).mono fun e W' ⟨he, hg⟩ => ?_
  subst he
  exact ⟨_, rfl, post_bel (pa := []) (pv := []) hW' (fun _ _ _ => (trodAll_cons_mk (shut_bool Try.underlying4 _) trodAll_mk0)) (fun sp _ => rfl) (fun _ _ => rfl) rfl
    hg (ok_one (by kernel_rfl) rfl (okWide_bool_mk Try.underlying4 _))⟩

theorem over : Rows.limbKnownRow.holds Try.pinned (OpenSpec.ofChange Rows.limbKnownSpec) :=
  OpenClaim.holds_of_wide 3 Try.f3 rfl rfl rfl rfl rfl rfl rfl ⟨rfl, rfl, rfl, rfl, rfl⟩ rfl rfl rfl rfl rfl (by kernel_rfl) Try.func3 (by kernel_rfl)
    (of_decide_eq_true (by kernel_rfl)) (by unfold Func.isWrapper; first | (rw [if_pos (by decide +kernel)]; kernel_rfl) | (rw [if_neg (by decide +kernel)]; exact ⟨rfl, rfl⟩))
    (fun os started H enc _ => lifted os started H enc)

/-- The given statement. -/
theorem proved : Rows.LimbKnownSaid :=
  over
#print axioms proved
end Go.Proofs.Ytipkchgibomgkaa.limbKnown

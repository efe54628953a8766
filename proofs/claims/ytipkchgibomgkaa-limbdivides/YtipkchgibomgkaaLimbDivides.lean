/- For every input 'LimbDivides' returns true and leaves its arguments as they were. No condition. -/
import Derived.Test.YtipkchgibomgkaaRows
import Derived.WalkKit
import Derived.ProofKit
import Derived.OpenShut
import Derived.Test.YtipkchgibomgkaaKnownA
import Derived.Test.YtipkchgibomgkaaPost
namespace Go.Proofs.Ytipkchgibomgkaa.limbDivides
open Go.ChangeShapes Go.WideShapes Go.ChangeAt Go.RowKit
set_option linter.unusedVariables false

theorem own : ownKnob Try.prog.godebug = none := by kernel_rfl

/-- The divisor: not 0. -/
theorem mkD {w0 w : World} {gx gy : Nat} {x0 x1 y0 y1 : Int} (h : HB w0 [(gy, 23, #[.int .u64 y0, .int .u64 y1]), (gx, 23, #[.int .u64 x0, .int .u64 x1])] w) :
    HB w0 [(gy, 23, #[.int .u64 y0, .int .u64 y1]), (gx, 23, #[.int .u64 x0, .int .u64 x1])] w ∧ (w.cell? ⟨gx, 0, none⟩ = some (.int .u64 x0) ∧ w.cell? ⟨gx, 1, none⟩ = some (.int .u64 x1)) :=
  ⟨h, (HB.two (t := 23) h (by simp)).2⟩
theorem tyD {gx gy : Nat} {x0 x1 y0 y1 : Int} : ∀ b ∈ [(gy, (23 : TypeId), (#[.int .u64 y0, .int .u64 y1] : Array Value)), (gx, (23 : TypeId), (#[.int .u64 x0, .int .u64 x1] : Array Value))], b.2.1 ≠ 27 := by
  intro b hb
  simp at hb
  rcases hb with rfl | rfl <;> simp
theorem pos_of {y0 y1 : Int} (h0 : U64 y0) (h1 : U64 y1) (h : ¬ (y0 = 0 ∧ y1 = 0)) : 0 < v2 y0 y1 := by
  rcases Nat.eq_zero_or_pos (v2 y0 y1) with e | e
  · exact absurd ((v2_zero h0 h1).1 e) h
  · exact e
theorem divD {m0 m1 m2 m3 y0 y1 q0 q1 q2 q3 r0 r1 : Int} {ok : Bool} (hy : 0 < v2 y0 y1) (h : DivR m0 m1 m2 m3 y0 y1 q0 q1 q2 q3 r0 r1 ok) :
    ok = true ∧ U64 q0 ∧ U64 q1 ∧ U64 q2 ∧ U64 q3 ∧ U64 r0 ∧ U64 r1 ∧ v2 r0 r1 < v2 y0 y1 ∧ v4 m0 m1 m2 m3 = v4 q0 q1 q2 q3 * v2 y0 y1 + v2 r0 r1 := by
  rcases h with ⟨hz, _⟩ | ⟨_, hp, u0, u1, u2, u3, s0, s1, eq, er⟩
  · omega
  · refine ⟨hp, u0, u1, u2, u3, s0, s1, ?_, ?_⟩
    · rw [er]; exact Nat.mod_lt _ hy
    · rw [eq, er, Nat.mul_comm]; exact (Nat.div_add_mod _ _).symm
def EndD (m0 m1 m2 m3 l0 l1 l2 l3 h0 h1 r0 r1 : Int) : Prop := v2 m0 m1 + v2 m2 m3 * 340282366920938463463374607431768211456 = v2 l0 l1 + v2 r0 r1 + (v2 l2 l3 + v2 h0 h1) * 340282366920938463463374607431768211456
theorem endD {m0 m1 m2 m3 q0 q1 q2 q3 y0 y1 r0 r1 l0 l1 l2 l3 h0 h1 h2 h3 : Int} (hm0 : U64 m0) (hm1 : U64 m1) (hm2 : U64 m2) (hm3 : U64 m3) (hq : v4 m0 m1 m2 m3 = v4 q0 q1 q2 q3 * v2 y0 y1 + v2 r0 r1)
    (hl : MulR q0 q1 y0 y1 l0 l1 l2 l3) (hh : MulR q2 q3 y0 y1 h0 h1 h2 h3) : h2 = 0 ∧ h3 = 0 ∧ EndD m0 m1 m2 m3 l0 l1 l2 l3 h0 h1 r0 r1 := by
  obtain ⟨_, _, _, _, el⟩ := hl
  obtain ⟨a, b, c, d, eh⟩ := hh
  have e1 : v4 q0 q1 q2 q3 = v2 q0 q1 + v2 q2 q3 * 340282366920938463463374607431768211456 := rfl
  have e2 : v4 m0 m1 m2 m3 = v2 m0 m1 + v2 m2 m3 * 340282366920938463463374607431768211456 := rfl
  have e3 : v4 l0 l1 l2 l3 = v2 l0 l1 + v2 l2 l3 * 340282366920938463463374607431768211456 := rfl
  have b1 := v2_lt hm0 hm1
  have b2 := v2_lt hm2 hm3
  rw [e1, Nat.add_mul, Nat.mul_right_comm, ← el, ← eh, e2, e3] at hq
  have hlt : v4 h0 h1 h2 h3 < 340282366920938463463374607431768211456 := by omega
  obtain ⟨hz2, hz3, ez⟩ := v4_low a b c d hlt
  refine ⟨hz2, hz3, ?_⟩
  unfold EndD
  rw [ez] at hq
  omega
theorem endYes {m0 m1 m2 m3 l0 l1 l2 l3 h0 h1 r0 r1 s0 s1 : Int} (h : EndD m0 m1 m2 m3 l0 l1 l2 l3 h0 h1 r0 r1) (hs : AddR l0 l1 r0 r1 s0 s1 true) (hm0 : U64 m0) (hm1 : U64 m1) (hm2 : U64 m2) (hm3 : U64 m3) : v2 s0 s1 = v2 m0 m1 ∧ v2 l2 l3 + v2 h0 h1 = v2 m2 m3 := by
  have b1 := v2_lt hm0 hm1
  have b2 := v2_lt hm2 hm3
  unfold EndD at h
  obtain ⟨_, _, ⟨hl, _, e⟩ | ⟨_, hf, _⟩⟩ := hs
  · omega
  · cases hf
theorem addNo {l0 l1 r0 r1 s0 s1 : Int} (h : AddR l0 l1 r0 r1 s0 s1 false) : 340282366920938463463374607431768211456 ≤ v2 l0 l1 + v2 r0 r1 ∧ s0 = 0 ∧ s1 = 0 := by
  obtain ⟨_, _, ⟨_, hp, _⟩ | ⟨a, _, b, c⟩⟩ := h
  · cases hp
  · exact ⟨a, b, c⟩
theorem wrapLt {l0 l1 r0 r1 n0 k1 n1 : Int} (hl0 : U64 l0) (hl1 : U64 l1) (hr0 : U64 r0) (hr1 : U64 r1) (h : 340282366920938463463374607431768211456 ≤ v2 l0 l1 + v2 r0 r1) (e0 : IntKind.u64.wrap (l0 + r0) = n0) (e1 : IntKind.u64.wrap (l1 + r1) = k1) (e2 : IntKind.u64.wrap (k1 + 1) = n1) (hlt : n0 < r0) :
    v2 n0 n1 + 340282366920938463463374607431768211456 = v2 l0 l1 + v2 r0 r1 ∧ U64 n0 ∧ U64 n1 := by
  rw [IntKind.wrap_u64] at e0 e1 e2
  unfold U64 v2 at *
  omega
theorem wrapGe {l0 l1 r0 r1 n0 k1 : Int} (hl0 : U64 l0) (hl1 : U64 l1) (hr0 : U64 r0) (hr1 : U64 r1) (h : 340282366920938463463374607431768211456 ≤ v2 l0 l1 + v2 r0 r1) (e0 : IntKind.u64.wrap (l0 + r0) = n0) (e1 : IntKind.u64.wrap (l1 + r1) = k1) (hlt : ¬ n0 < r0) :
    v2 n0 k1 + 340282366920938463463374607431768211456 = v2 l0 l1 + v2 r0 r1 ∧ U64 n0 ∧ U64 k1 := by
  rw [IntKind.wrap_u64] at e0 e1
  unfold U64 v2 at *
  omega
theorem endNo {m0 m1 m2 m3 l0 l1 l2 l3 h0 h1 r0 r1 n0 n1 t0 t1 : Int} {p : Bool} (h : EndD m0 m1 m2 m3 l0 l1 l2 l3 h0 h1 r0 r1) (hn : v2 n0 n1 + 340282366920938463463374607431768211456 = v2 l0 l1 + v2 r0 r1) (hn0 : U64 n0) (hn1 : U64 n1) (ht : AddR l2 l3 1 0 t0 t1 p) (hm0 : U64 m0) (hm1 : U64 m1) (hm2 : U64 m2) (hm3 : U64 m3) :
    v2 n0 n1 = v2 m0 m1 ∧ v2 t0 t1 + v2 h0 h1 = v2 m2 m3 := by
  have b1 := v2_lt hm0 hm1
  have b2 := v2_lt hm2 hm3
  have b3 := v2_lt hn0 hn1
  have e1 : v2 1 0 = 1 := by simp [v2]
  unfold EndD at h
  unfold AddR at ht
  rw [e1] at ht
  obtain ⟨_, _, ⟨_, _, e⟩ | ⟨hl, _⟩⟩ := ht
  · omega
  · omega
theorem lastD {m2 m3 t0 t1 h0 h1 k0 k1 : Int} {p : Bool} (hm2 : U64 m2) (hm3 : U64 m3) (e : v2 t0 t1 + v2 h0 h1 = v2 m2 m3) (h : AddR t0 t1 h0 h1 k0 k1 p) : m2 = k0 ∧ m3 = k1 ∧ p = true := by
  have b2 := v2_lt hm2 hm3
  obtain ⟨a, b, ⟨_, hp, f⟩ | ⟨hl, _⟩⟩ := h
  · obtain ⟨g0, g1⟩ := v2_inj hm2 hm3 a b (by omega)
    exact ⟨g0, g1, hp⟩
  · omega
def Two (w0 : World) (gx gy : Nat) (x0 x1 y0 y1 : Int) (w : World) : Prop := HB w0 [(gy, 23, #[.int .u64 y0, .int .u64 y1]), (gx, 23, #[.int .u64 x0, .int .u64 x1])] w
set_option maxRecDepth 100000 in
set_option maxHeartbeats 6400000 in
theorem walk (a0 : Int) (a1 : Int) (a2 : Int) (a3 : Int) (a4 : Int) (a5 : Int) (w0 : (Lit.int .u64 a0).wf = true) (w1 : (Lit.int .u64 a1).wf = true) (w2 : (Lit.int .u64 a2).wf = true) (w3 : (Lit.int .u64 a3).wf = true) (w4 : (Lit.int .i64 a4).wf = true) (w5 : (Lit.int .i64 a5).wf = true) (w : World) :
    Calls Try.prog 5 #[.int .u64 a0, .int .u64 a1, .int .u64 a2, .int .u64 a3, .int .i64 a4, .int .i64 a5] w fun e w' => e = .returned (.bool true) ∧ Below w.heap.size w w' := by
  have u0 := u64_of_wf w0
  have u1 := u64_of_wf w1
  have u2 := u64_of_wf w2
  have u3 := u64_of_wf w3
  clear w0 w1 w2 w3 w4 w5
  go_enter Try.func5, Try.ntmps5
  go_wp2_with fail
  refine (words_l a0 a1 a4 _ u0 u1).mono ?_
  rintro e wa ⟨_, ⟨x0, x1, ⟨hx0, hx1⟩, rfl⟩, rfl, hb⟩
  have W := HB.start hb
  clear hb
  go_wp2_with fail
  refine (words_l a2 a3 a5 _ u2 u3).mono ?_
  rintro e wb ⟨_, ⟨y0, y1, ⟨hy0, hy1⟩, rfl⟩, rfl, hb⟩
  replace W := (W.push #[.int .u64 x0, .int .u64 x1] 23).below hb
  have WB := W.1.size
  have lx := (HB.blk (g := wa.heap.size) (t := 23) (cs := #[.int .u64 x0, .int .u64 x1]) W (by simp)).lt
  replace W := W.push #[.int .u64 y0, .int .u64 y1] 23
  clear hb
  have cy := HB.two (t := 23) (g := wb.heap.size) (a := .int .u64 y0) (b := .int .u64 y1) W (by simp)
  obtain ⟨ly, cy0, cy1⟩ := cy
  obtain ⟨β, hβ⟩ : ∃ β, eqW2 y0 y1 0 0 = β := ⟨_, rfl⟩
  go_upto_if 36 with (fail)
  go_cut [36] (fun s wx => ∃ y0 y1 : Int, (s = .bool true ∨ s = .bool false) ∧ U64 y0 ∧ U64 y1 ∧ 0 < v2 y0 y1 ∧ HB w [(wb.heap.size, 23, #[.int .u64 y0, .int .u64 y1]), (wa.heap.size, 23, #[.int .u64 x0, .int .u64 x1])] wx)
  case first =>
    cases β
    · have hp := Lib.hid (pos_of hy0 hy1 (fun h => by rw [eqW2_yes h] at hβ; cases hβ))
      clear hβ
      go_wp2_with fail
      go_meet
      case rel => exact ⟨y0, y1, Or.inr rfl, hy0, hy1, hp.out, W⟩
    · clear hβ
      go_wp2_with fail
      refine (of_c 3 _).mono ?_
      rintro e wo ⟨_, rfl, rfl, hb⟩
      replace W := W.below hb
      have BY : Blk wo wb.heap.size 23 #[.int .u64 y0, .int .u64 y1] := W.blk (by simp)
      have BX : Blk wo wa.heap.size 23 #[.int .u64 x0, .int .u64 x1] := W.blk (by simp)
      have c0 := BY.cell 0
      have c1 := BY.cell 1
      have f0 := BY.frozen 0
      have f1 := BY.frozen 1
      simp at c0 c1
      have hle : w.heap.size ≤ wb.heap.size := WB
      have hne : wa.heap.size ≠ wb.heap.size := by omega
      clear cy0 cy1 ly hb
      go_wp2_with fail
      go_meet
      case rel =>
        refine ⟨3, 0, Or.inl rfl, u64_3, u64_0, by simp [v2], (W.1.setCell (p := ⟨wb.heap.size, 0, none⟩) hle _).setCell (p := ⟨wb.heap.size, 1, none⟩) hle _, ?_⟩
        intro b hb
        simp at hb
        rcases hb with rfl | rfl
        · exact (BY.set_ 0 (.int .u64 3)).set_ 1 (.int .u64 0)
        · exact (BX.far (p := ⟨wb.heap.size, 0, none⟩) hne _).far (p := ⟨wb.heap.size, 1, none⟩) hne _
  case rest =>
    clear W hy0 hy1 cy0 cy1 ly hβ
    obtain ⟨y0, y1, -, hy0, hy1, hp, W⟩ := hcut
    have HP := Lib.hid hp
    clear hp
    go_upto_region 5 with fail
    go_cut [15] (fun s wx => ∃ (g : Nat) (m0 m1 m2 m3 : Int), s = .pointer (some ⟨g, 0, none⟩) ∧ (U64 m0 ∧ U64 m1 ∧ U64 m2 ∧ U64 m3) ∧ HB w ((g, 27, #[.int .u64 m0, .int .u64 m1, .int .u64 m2, .int .u64 m3]) :: [(wb.heap.size, 23, #[.int .u64 y0, .int .u64 y1]), (wa.heap.size, 23, #[.int .u64 x0, .int .u64 x1])]) wx)
    case first =>
      go_region_held3 (fun w' => HB w [(wb.heap.size, 23, #[.int .u64 y0, .int .u64 y1]), (wa.heap.size, 23, #[.int .u64 x0, .int .u64 x1])] w' ∧ (w'.cell? ⟨wa.heap.size, 0, none⟩ = some (.int .u64 x0) ∧ w'.cell? ⟨wa.heap.size, 1, none⟩ = some (.int .u64 x1))) (first | exact mkD (HB.drew W) | exact mkD HWx | exact mkD (HB.alloc HWx _) | exact mkD (keepB hbx (by assumption)) | exact mkD (keepBA (by assumption) _) | exact mkD (HB.sub (HB.set4 HWx BZ hgz (neB HWx BZ tyD)) (by simp))) (first | (go_at_call 27; refine (mul_c _ _ _ _ _ (by assumption) (by assumption) (by assumption) (by assumption)).mono ?_; rintro e wx ⟨_, ⟨c0, c1, c2, c3, HM, rfl⟩, rfl, hbx⟩; have HWx := keepB hbx (by assumption); (try (first | (replace BZ := BZ.below hbx BZ.lt; have z0 := BZ.cell 0; have z1 := BZ.cell 1; have z2 := BZ.cell 2; have z3 := BZ.cell 3; have f0 := BZ.frozen 0; have f1 := BZ.frozen 1; have f2 := BZ.frozen 2; have f3 := BZ.frozen 3; simp at z0 z1 z2 z3) | (have BZ := (Blk.new _ 27 #[.int .u64 0, .int .u64 0, .int .u64 0, .int .u64 0]).below hbx (by simp); have z0 := BZ.cell 0; have z1 := BZ.cell 1; have z2 := BZ.cell 2; have z3 := BZ.cell 3; have f0 := BZ.frozen 0; have f1 := BZ.frozen 1; have f2 := BZ.frozen 2; have f3 := BZ.frozen 3; simp at z0 z1 z2 z3)))) | (go_at_call 21; refine (words_l _ _ _ _ (by assumption) (by assumption)).mono ?_; rintro e wx ⟨_, ⟨k0, k1, ⟨hk0, hk1⟩, rfl⟩, rfl, hbx⟩; (first | (have hgz := W.1.size; have BZ := (Blk.new wc 27 #[.int .u64 0, .int .u64 0, .int .u64 0, .int .u64 0]).drew.below hbx (by simp)) | (have hgz := W.1.size; have BZ := (Blk.new wc.drew 27 #[.int .u64 0, .int .u64 0, .int .u64 0, .int .u64 0]).below hbx (by simp)) | have hgz := (keepB hbx (by assumption)).1.size)))
      all_goals
        go_wp2_with fail
        go_meet
        case rel => first | exact ⟨_, c0, c1, c2, c3, rfl, ⟨HM.1, HM.2.1, HM.2.2.1, HM.2.2.2.1⟩, HB.push HWx _ _⟩ | exact ⟨_, c0, c1, c2, c3, rfl, ⟨HM.1, HM.2.1, HM.2.2.1, HM.2.2.2.1⟩, HB.set4 HWx BZ hgz (neB HWx BZ tyD)⟩
    case rest =>
      clear W
      obtain ⟨gm, m0, m1, m2, m3, rfl, ⟨hm0, hm1, hm2, hm3⟩, W⟩ := hcut
      have cy := (HB.two (t := 23) (g := wb.heap.size) (a := .int .u64 y0) (b := .int .u64 y1) W (by simp)).2
      have cm := (HB.four (t := 27) (g := gm) (a := .int .u64 m0) (b := .int .u64 m1) (c := .int .u64 m2) (d := .int .u64 m3) W (by simp)).2
      obtain ⟨cy0, cy1⟩ := cy
      obtain ⟨cm0, cm1, cm2, cm3⟩ := cm
      go_wp2_with fail
      refine (div_c m0 m1 m2 m3 y0 y1 _ hm0 hm1 hm2 hm3 hy0 hy1).mono ?_
      rintro e wq ⟨_, ⟨q0, q1, q2, q3, r0, r1, ok, HD, rfl⟩, rfl, hb⟩
      obtain ⟨rfl, hq0, hq1, hq2, hq3, hr0, hr1, hrlt, HQ⟩ := divD HP.out HD
      have HRL := Lib.hid (cmpI_lt hrlt)
      replace W := ((W.below hb).push #[.int .u64 q0, .int .u64 q1, .int .u64 q2, .int .u64 q3] 27).push #[.int .u64 r0, .int .u64 r1] 23
      simp only [World.size_alloc] at W
      clear hb cy0 cy1 cm0 cm1 cm2 cm3 HD hrlt
      go_wp2_with fail
      refine (known_c _).mono ?_
      rintro e wk ⟨_, rfl, rfl, hb⟩
      replace W := W.below hb
      clear hb
      obtain ⟨cy0, cy1⟩ := (HB.two (t := 23) (g := wb.heap.size) (a := .int .u64 y0) (b := .int .u64 y1) W (by simp)).2
      obtain ⟨cr0, cr1⟩ := (HB.two (t := 23) (g := wq.heap.size + 1) (a := .int .u64 r0) (b := .int .u64 r1) W (by simp)).2
      go_wp2_with fail
      refine (cmp_c r0 r1 y0 y1 _ hr0 hr1 hy0 hy1).mono ?_
      rintro e wk2 ⟨v, hv, rfl, hb⟩
      rw [IsInt, HRL.out] at hv
      subst hv
      replace W := W.below hb
      clear hb cy0 cy1 cr0 cr1
      obtain ⟨cy0, cy1⟩ := (HB.two (t := 23) (g := wb.heap.size) (a := .int .u64 y0) (b := .int .u64 y1) W (by simp)).2
      obtain ⟨cq0, cq1, cq2, cq3⟩ := (HB.four (t := 27) (g := wq.heap.size) (a := .int .u64 q0) (b := .int .u64 q1) (c := .int .u64 q2) (d := .int .u64 q3) W (by simp)).2
      go_wp2_with fail
      refine (mul_c q0 q1 y0 y1 _ hq0 hq1 hy0 hy1).mono ?_
      rintro e vl ⟨_, ⟨l0, l1, l2, l3, HL, rfl⟩, rfl, hb⟩
      replace W := (W.below hb).push #[.int .u64 l0, .int .u64 l1, .int .u64 l2, .int .u64 l3] 27
      clear hb cy0 cy1 cq0 cq1 cq2 cq3
      obtain ⟨_, cy0, cy1⟩ := (HB.two (t := 23) (g := wb.heap.size) (a := .int .u64 y0) (b := .int .u64 y1) W (by simp))
      obtain ⟨_, cq0, cq1, cq2, cq3⟩ := (HB.four (t := 27) (g := wq.heap.size) (a := .int .u64 q0) (b := .int .u64 q1) (c := .int .u64 q2) (d := .int .u64 q3) W (by simp))
      go_wp2_with fail
      refine (mul_c q2 q3 y0 y1 _ hq2 hq3 hy0 hy1).mono ?_
      rintro e vh ⟨_, ⟨h0, h1, h2, h3, HH, rfl⟩, rfl, hb⟩
      obtain ⟨hh2, hh3, HE⟩ := endD hm0 hm1 hm2 hm3 HQ HL HH
      have g2 : (h2 != 0) = false := by rw [hh2]; rfl
      have g3 : (h3 != 0) = false := by rw [hh3]; rfl
      have hl0 := HL.1
      have hl1 := HL.2.1
      have hl2 := HL.2.2.1
      have hl3 := HL.2.2.2.1
      have hh0 := HH.1
      have hh1 := HH.2.1
      replace W := (W.below hb).push #[.int .u64 h0, .int .u64 h1, .int .u64 h2, .int .u64 h3] 27
      clear hb cy0 cy1 cq0 cq1 cq2 cq3 hh2 hh3 HL HH HQ
      obtain ⟨_, cl0, cl1, cl2, cl3⟩ := (HB.four (t := 27) (g := vl.heap.size) (a := .int .u64 l0) (b := .int .u64 l1) (c := .int .u64 l2) (d := .int .u64 l3) W (by simp))
      obtain ⟨_, cr0, cr1⟩ := (HB.two (t := 23) (g := wq.heap.size + 1) (a := .int .u64 r0) (b := .int .u64 r1) W (by simp))
      go_wp2_with fail
      refine (add_c l0 l1 r0 r1 _ hl0 hl1 hr0 hr1).mono ?_
      rintro e vs ⟨_, ⟨s0, s1, p, HS, rfl⟩, rfl, hb⟩
      replace W := W.below hb
      clear hb cl0 cl1 cl2 cl3 cr0 cr1 g2 g3
      obtain ⟨_, cl0, cl1, cl2, cl3⟩ := (HB.four (t := 27) (g := vl.heap.size) (a := .int .u64 l0) (b := .int .u64 l1) (c := .int .u64 l2) (d := .int .u64 l3) W (by simp))
      obtain ⟨_, cr0, cr1⟩ := (HB.two (t := 23) (g := wq.heap.size + 1) (a := .int .u64 r0) (b := .int .u64 r1) W (by simp))
      go_upto_if 102 with (fail)
      go_cut [102] (fun f wx => ∃ s0 s1 t0 t1 : Int, (f = .bool true ∨ f = .bool false) ∧ (U64 s0 ∧ U64 s1 ∧ U64 t0 ∧ U64 t1) ∧ v2 s0 s1 = v2 m0 m1 ∧ v2 t0 t1 + v2 h0 h1 = v2 m2 m3 ∧ HB w [(vs.heap.size + 1, 23, #[.int .u64 t0, .int .u64 t1]), (vs.heap.size, 23, #[.int .u64 s0, .int .u64 s1]), (vh.heap.size, 27, #[.int .u64 h0, .int .u64 h1, .int .u64 h2, .int .u64 h3]), (gm, 27, #[.int .u64 m0, .int .u64 m1, .int .u64 m2, .int .u64 m3])] wx)
      case first =>
        cases p
        · obtain ⟨hge, rfl, rfl⟩ := addNo HS
          have HC := Lib.hid hge
          have hle1 : w.heap.size ≤ vs.heap.size + 1 := Nat.le_trans W.1.size (Nat.le_succ _)
          have lh := (HB.blk (g := vh.heap.size) (t := 27) (cs := #[.int .u64 h0, .int .u64 h1, .int .u64 h2, .int .u64 h3]) W (by simp)).lt
          have lm := (HB.blk (g := gm) (t := 27) (cs := #[.int .u64 m0, .int .u64 m1, .int .u64 m2, .int .u64 m3]) W (by simp)).lt
          have lr := (HB.blk (g := wq.heap.size + 1) (t := 23) (cs := #[.int .u64 r0, .int .u64 r1]) W (by simp)).lt
          have nq0 : wq.heap.size < vs.heap.size := by omega
          have nq1 : ¬ wq.heap.size = vs.heap.size := by omega
          have nq2 : ¬ wq.heap.size + 1 = vs.heap.size := by omega
          have hne0 : vs.heap.size ≠ vs.heap.size + 1 := by omega
          have hneh : vh.heap.size ≠ vs.heap.size + 1 := by omega
          have hnem : gm ≠ vs.heap.size + 1 := by omega
          clear hge
          obtain ⟨n0, en0⟩ : ∃ n0, IntKind.u64.wrap (l0 + r0) = n0 := ⟨_, rfl⟩
          obtain ⟨k1, ek1⟩ : ∃ k1, IntKind.u64.wrap (l1 + r1) = k1 := ⟨_, rfl⟩
          by_cases hlt : n0 < r0
          · obtain ⟨n1, en1⟩ : ∃ n1, IntKind.u64.wrap (k1 + 1) = n1 := ⟨_, rfl⟩
            obtain ⟨hn, hn0, hn1⟩ := wrapLt hl0 hl1 hr0 hr1 HC.out en0 ek1 en1 hlt
            have HN := Lib.hid hn
            have W9 := (W.push #[.int .u64 n0, .int .u64 n1] 23).push #[.int .u64 l2, .int .u64 l3] 23
            simp only [World.size_alloc] at W9
            clear hn HC
            go_upto_region 19 with fail
            go_region_with (first | (go_at_call 10; refine (of_x 1 _).mono ?_; rintro e wo ⟨rfl, rfl⟩) | (go_at_call 9; refine (add_c l2 l3 1 0 _ hl2 hl3 u64_1 u64_0).mono ?_; rintro e w2 ⟨_, ⟨t0, t1, pt, HT, rfl⟩, rfl, hbx⟩; have WX := ((W9.alloc (.cells #[.int .u64 1, .int .u64 0] 23)).drew).below hbx; have BT : Blk w2 (vs.heap.size + 1) 23 #[.int .u64 l2, .int .u64 l3] := WX.blk (by simp); have d0 := BT.cell 0; have d1 := BT.cell 1; have f0 := BT.frozen 0; have f1 := BT.frozen 1; simp at d0 d1))
            all_goals
              have HF := endNo HE HN.out hn0 hn1 HT hm0 hm1 hm2 hm3
              go_wp2_with fail
              go_meet
              case rel =>
                refine ⟨n0, n1, t0, t1, Or.inl rfl, ⟨hn0, hn1, HT.1, HT.2.1⟩, HF.1, HF.2, (WX.1.setCell (p := ⟨vs.heap.size + 1, 0, none⟩) hle1 _).setCell (p := ⟨vs.heap.size + 1, 1, none⟩) hle1 _, ?_⟩
                intro b hb
                simp at hb
                rcases hb with rfl | rfl | rfl | rfl
                · exact (BT.set_ 0 (.int .u64 t0)).set_ 1 (.int .u64 t1)
                · exact ((WX.blk (g := vs.heap.size) (t := 23) (cs := #[.int .u64 n0, .int .u64 n1]) (by simp)).far (p := ⟨vs.heap.size + 1, 0, none⟩) hne0 _).far (p := ⟨vs.heap.size + 1, 1, none⟩) hne0 _
                · exact ((WX.blk (g := vh.heap.size) (t := 27) (cs := #[.int .u64 h0, .int .u64 h1, .int .u64 h2, .int .u64 h3]) (by simp)).far (p := ⟨vs.heap.size + 1, 0, none⟩) hneh _).far (p := ⟨vs.heap.size + 1, 1, none⟩) hneh _
                · exact ((WX.blk (g := gm) (t := 27) (cs := #[.int .u64 m0, .int .u64 m1, .int .u64 m2, .int .u64 m3]) (by simp)).far (p := ⟨vs.heap.size + 1, 0, none⟩) hnem _).far (p := ⟨vs.heap.size + 1, 1, none⟩) hnem _
          · obtain ⟨n1, en1⟩ : ∃ n1, k1 = n1 := ⟨_, rfl⟩
            subst en1
            obtain ⟨hn, hn0, hn1⟩ := wrapGe hl0 hl1 hr0 hr1 HC.out en0 ek1 hlt
            have HN := Lib.hid hn
            have W9 := (W.push #[.int .u64 n0, .int .u64 k1] 23).push #[.int .u64 l2, .int .u64 l3] 23
            simp only [World.size_alloc] at W9
            clear hn HC
            go_upto_region 19 with fail
            go_region_with (first | (go_at_call 10; refine (of_x 1 _).mono ?_; rintro e wo ⟨rfl, rfl⟩) | (go_at_call 9; refine (add_c l2 l3 1 0 _ hl2 hl3 u64_1 u64_0).mono ?_; rintro e w2 ⟨_, ⟨t0, t1, pt, HT, rfl⟩, rfl, hbx⟩; have WX := ((W9.alloc (.cells #[.int .u64 1, .int .u64 0] 23)).drew).below hbx; have BT : Blk w2 (vs.heap.size + 1) 23 #[.int .u64 l2, .int .u64 l3] := WX.blk (by simp); have d0 := BT.cell 0; have d1 := BT.cell 1; have f0 := BT.frozen 0; have f1 := BT.frozen 1; simp at d0 d1))
            all_goals
              have HF := endNo HE HN.out hn0 hn1 HT hm0 hm1 hm2 hm3
              go_wp2_with fail
              go_meet
              case rel =>
                refine ⟨n0, k1, t0, t1, Or.inl rfl, ⟨hn0, hn1, HT.1, HT.2.1⟩, HF.1, HF.2, (WX.1.setCell (p := ⟨vs.heap.size + 1, 0, none⟩) hle1 _).setCell (p := ⟨vs.heap.size + 1, 1, none⟩) hle1 _, ?_⟩
                intro b hb
                simp at hb
                rcases hb with rfl | rfl | rfl | rfl
                · exact (BT.set_ 0 (.int .u64 t0)).set_ 1 (.int .u64 t1)
                · exact ((WX.blk (g := vs.heap.size) (t := 23) (cs := #[.int .u64 n0, .int .u64 k1]) (by simp)).far (p := ⟨vs.heap.size + 1, 0, none⟩) hne0 _).far (p := ⟨vs.heap.size + 1, 1, none⟩) hne0 _
                · exact ((WX.blk (g := vh.heap.size) (t := 27) (cs := #[.int .u64 h0, .int .u64 h1, .int .u64 h2, .int .u64 h3]) (by simp)).far (p := ⟨vs.heap.size + 1, 0, none⟩) hneh _).far (p := ⟨vs.heap.size + 1, 1, none⟩) hneh _
                · exact ((WX.blk (g := gm) (t := 27) (cs := #[.int .u64 m0, .int .u64 m1, .int .u64 m2, .int .u64 m3]) (by simp)).far (p := ⟨vs.heap.size + 1, 0, none⟩) hnem _).far (p := ⟨vs.heap.size + 1, 1, none⟩) hnem _
        · have HF := endYes HE HS hm0 hm1 hm2 hm3
          go_wp2_with fail
          go_meet
          case rel =>
            refine ⟨s0, s1, l2, l3, Or.inr rfl, ⟨HS.1, HS.2.1, hl2, hl3⟩, HF.1, HF.2, ?_⟩
            have W9 := (W.push #[.int .u64 s0, .int .u64 s1] 23).push #[.int .u64 l2, .int .u64 l3] 23
            simp only [World.size_alloc] at W9
            exact W9.sub (by simp)
      case rest =>
        clear W cl0 cl1 cl2 cl3 cr0 cr1 HS HE
        obtain ⟨s0, s1, t0, t1, -, ⟨hs0, hs1, ht0, ht1⟩, es, et, W⟩ := hcut
        obtain ⟨rfl, rfl⟩ := v2_inj hm0 hm1 hs0 hs1 es.symm
        have ET := Lib.hid et
        clear es et
        obtain ⟨ct0, ct1⟩ := (HB.two (t := 23) (g := vs.heap.size + 1) (a := .int .u64 t0) (b := .int .u64 t1) W (by simp)).2
        obtain ⟨ch0, ch1, ch2, ch3⟩ := (HB.four (t := 27) (g := vh.heap.size) (a := .int .u64 h0) (b := .int .u64 h1) (c := .int .u64 h2) (d := .int .u64 h3) W (by simp)).2
        go_wp2_with fail
        refine (add_c t0 t1 h0 h1 _ ht0 ht1 hh0 hh1).mono ?_
        rintro e wf ⟨_, ⟨k0, k1, kp, HK, rfl⟩, rfl, hb⟩
        obtain ⟨rfl, rfl, rfl⟩ := lastD hm2 hm3 ET.out HK
        replace W := W.below hb
        clear hb ct0 ct1 ch0 ch1 ch2 ch3
        obtain ⟨_, cs0, cs1⟩ := (HB.two (t := 23) (g := vs.heap.size) (a := .int .u64 m0) (b := .int .u64 m1) W (by simp))
        obtain ⟨_, cm0, cm1, cm2, cm3⟩ := (HB.four (t := 27) (g := gm) (a := .int .u64 m0) (b := .int .u64 m1) (c := .int .u64 m2) (d := .int .u64 m3) W (by simp))
        have ga := eqW2_yes (a := m0) (b := m1) ⟨rfl, rfl⟩
        have gb := eqW2_yes (a := m2) (b := m3) ⟨rfl, rfl⟩
        have fin := bel_alloc W.1 (.cells #[.int .u64 m2, .int .u64 m3] 23)
        go_wp2
        go_ret
        exact ⟨rfl, fin⟩

set_option maxRecDepth 100000 in
theorem lifted (os : Os) (started : os.Started) (H : Type) (enc : TypeId × Value → H) :
    ReturnsInHanded {} Try.checked os 5 .any (Rows.limbDividesSpec.pre6 enc Try.prog Try.f5 Rows.limbDividesRow.domain false) (Rows.limbDividesSpec.post enc Try.prog Try.f5 false true false false) := by
  refine returnsInHanded_of_change (C := Try.checked) own started (by kernel_rfl) Try.func5
    (ChangeSpec.witness6 (enc := enc) (C := Try.checked) false ⟨#[], #[.int .u64 0, .int .u64 0, .int .u64 0, .int .u64 0, .int .i64 0, .int .i64 0], []⟩ 8 (by kernel_rfl) (by kernel_rfl) (by kernel_rfl) (by kernel_rfl)) ?_
  intro W base args ds gs before hval0 hW hcnd _
  have hval : ∀ (j : Nat) t v, Try.f5.params[j]? = some t → args[j]? = some v → Value.okWide Try.prog W .any base t v := hval0
  have hW' := hW
  obtain ⟨p, q, hA0, hV, rfl, hfz, hnd⟩ := hW
  have hA : DataW.TrodAll enc Try.prog W 0 (fun _ => true) true Try.f5.params.toList args.toList ds p := hA0
  rw [Try.params5] at hA hval
  obtain ⟨v0, vs0, d0, ds0, p0, q0, hargs, rfl, rfl, h0, r0⟩ := trodAll_cons hA
  obtain ⟨v1, vs1, d1, ds1, p1, q1, rfl, rfl, rfl, h1, r1⟩ := trodAll_cons r0
  obtain ⟨v2, vs2, d2, ds2, p2, q2, rfl, rfl, rfl, h2, r2⟩ := trodAll_cons r1
  obtain ⟨v3, vs3, d3, ds3, p3, q3, rfl, rfl, rfl, h3, r3⟩ := trodAll_cons r2
  obtain ⟨v4, vs4, d4, ds4, p4, q4, rfl, rfl, rfl, h4, r4⟩ := trodAll_cons r3
  obtain ⟨v5, vs5, d5, ds5, p5, q5, rfl, rfl, rfl, h5, r5⟩ := trodAll_cons r4
  obtain ⟨rfl, rfl, rfl⟩ := trodAll_nil r5
  obtain rfl : args = #[v0, v1, v2, v3, v4, v5] := by cases args; simp_all
  obtain ⟨rfl, rfl⟩ := trodVars_none hV
  obtain ⟨a0, rfl, rfl, rfl, w0⟩ := open_int Try.underlying22 (hval 0 22 v0 rfl rfl) h0
  obtain ⟨a1, rfl, rfl, rfl, w1⟩ := open_int Try.underlying22 (hval 1 22 v1 rfl rfl) h1
  obtain ⟨a2, rfl, rfl, rfl, w2⟩ := open_int Try.underlying22 (hval 2 22 v2 rfl rfl) h2
  obtain ⟨a3, rfl, rfl, rfl, w3⟩ := open_int Try.underlying22 (hval 3 22 v3 rfl rfl) h3
  obtain ⟨a4, rfl, rfl, rfl, w4⟩ := open_int Try.underlying3 (hval 4 3 v4 rfl rfl) h4
  obtain ⟨a5, rfl, rfl, rfl, w5⟩ := open_int Try.underlying3 (hval 5 3 v5 rfl rfl) h5
  clear hA0 hval0
  simp only [List.append_nil] at hW'
  refine (walk a0 a1 a2 a3 a4 a5 w0 w1 w2 w3 w4 w5 W).mono fun e W' ⟨he, hg⟩ => ?_
  subst he
  exact ⟨_, rfl, post_bel (pa := []) (pv := []) hW' (fun _ _ _ => (trodAll_cons_mk (shut_bool Try.underlying4 _) trodAll_mk0)) (fun sp _ => (trodAll_cons_mk (shut_int Try.underlying22 w0) (trodAll_cons_mk (shut_int Try.underlying22 w1) (trodAll_cons_mk (shut_int Try.underlying22 w2) (trodAll_cons_mk (shut_int Try.underlying22 w3) (trodAll_cons_mk (shut_int Try.underlying3 w4) (trodAll_cons_mk (shut_int Try.underlying3 w5) trodAll_mk0))))))) (fun _ _ => rfl) rfl
    hg (ok_one (by kernel_rfl) rfl (okWide_bool_mk Try.underlying4 _))⟩

theorem over : Rows.limbDividesRow.holds Try.pinned (OpenSpec.ofChange Rows.limbDividesSpec) :=
  OpenClaim.holds_of_wide 5 Try.f5 rfl rfl rfl rfl rfl rfl rfl ⟨rfl, rfl, rfl, rfl, rfl⟩ rfl rfl rfl rfl rfl (by kernel_rfl) Try.func5 (by kernel_rfl)
    (of_decide_eq_true (by kernel_rfl)) (by unfold Func.isWrapper; first | (rw [if_pos (by decide +kernel)]; kernel_rfl) | (rw [if_neg (by decide +kernel)]; exact ⟨rfl, rfl⟩))
    (fun os started H enc _ => lifted os started H enc)

/-- The given statement. -/
theorem proved : Rows.LimbDividesSaid :=
  over
#print axioms proved
end Go.Proofs.Ytipkchgibomgkaa.limbDivides

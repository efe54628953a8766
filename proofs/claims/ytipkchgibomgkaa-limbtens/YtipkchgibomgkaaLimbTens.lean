/- For every input 'LimbTens' returns true and leaves its arguments as they were. No condition. -/
import Derived.Test.YtipkchgibomgkaaRows
import Derived.WalkKit
import Derived.ProofKit
import Derived.OpenShut
import Derived.Test.YtipkchgibomgkaaHold
import Derived.Test.YtipkchgibomgkaaPost
namespace Go.Proofs.Ytipkchgibomgkaa.limbTens
open Go.ChangeShapes Go.WideShapes Go.ChangeAt Go.RowKit
set_option linter.unusedVariables false

theorem own : ownKnob Try.prog.godebug = none := by kernel_rfl

theorem tenT {k : Int} {s0 s1 : Int} {p : Bool} (h : TenR k s0 s1 p) (h0 : 0 ≤ k) (h1 : k ≤ 38) : p = true ∧ U64 s0 ∧ U64 s1 ∧ v2 s0 s1 = 10 ^ k.toNat := by
  obtain ⟨u0, u1, ⟨_, _, e, f⟩ | ⟨n, _⟩⟩ := h
  · exact ⟨e, u0, u1, f⟩
  · exact absurd ⟨h0, h1⟩ n
/-- A product of two powers is the one of their sum. -/
theorem v2_10 : v2 10 0 = 10 := by simp [v2]
theorem mulT {x0 x1 y0 y1 z0 z1 c0 c1 c2 c3 : Int} {m n : Nat} (hx : v2 x0 x1 = m) (hy : v2 y0 y1 = n) (hz0 : U64 z0) (hz1 : U64 z1) (hz : v2 z0 z1 = m * n) (h : MulR x0 x1 y0 y1 c0 c1 c2 c3) : eqW4 c0 c1 c2 c3 z0 z1 0 0 = true := by
  obtain ⟨h0, h1, h2, h3, e⟩ := h
  refine eqW4_yes (v4_inj h0 h1 h2 h3 hz0 hz1 u64_0 u64_0 ?_)
  rw [e, hx, hy, ← hz]
  unfold v4 v2
  omega
def S7 (w0 : World) (gx gy gz gn : Nat) (x0 x1 y0 y1 z0 z1 n0 n1 : Int) (w : World) : Prop := HB w0 [(gn, 23, #[.int .u64 n0, .int .u64 n1]), (gz, 23, #[.int .u64 z0, .int .u64 z1]), (gy, 23, #[.int .u64 y0, .int .u64 y1]), (gx, 23, #[.int .u64 x0, .int .u64 x1])] w
theorem mk7 {w0 w : World} {gx gy gz gn : Nat} {x0 x1 y0 y1 z0 z1 n0 n1 : Int} (h : S7 w0 gx gy gz gn x0 x1 y0 y1 z0 z1 n0 n1 w) :
    S7 w0 gx gy gz gn x0 x1 y0 y1 z0 z1 n0 n1 w ∧ (w.cell? ⟨gx, 0, none⟩ = some (.int .u64 x0) ∧ w.cell? ⟨gx, 1, none⟩ = some (.int .u64 x1)) ∧ (w.cell? ⟨gy, 0, none⟩ = some (.int .u64 y0) ∧ w.cell? ⟨gy, 1, none⟩ = some (.int .u64 y1)) ∧
      (w.cell? ⟨gz, 0, none⟩ = some (.int .u64 z0) ∧ w.cell? ⟨gz, 1, none⟩ = some (.int .u64 z1)) ∧ (w.cell? ⟨gn, 0, none⟩ = some (.int .u64 n0) ∧ w.cell? ⟨gn, 1, none⟩ = some (.int .u64 n1)) :=
  ⟨h, (HB.two (t := 23) h (by simp)).2, (HB.two (t := 23) h (by simp)).2, (HB.two (t := 23) h (by simp)).2, (HB.two (t := 23) h (by simp)).2⟩
theorem keep7 {w0 w w' : World} {gx gy gz gn : Nat} {x0 x1 y0 y1 z0 z1 n0 n1 : Int} {P : Prop} (hb : Below w.heap.size w w') (h : S7 w0 gx gy gz gn x0 x1 y0 y1 z0 z1 n0 n1 w ∧ P) : S7 w0 gx gy gz gn x0 x1 y0 y1 z0 z1 n0 n1 w' := HB.below h.1 hb
def S1 (w0 : World) (gx : Nat) (x0 x1 : Int) (w : World) : Prop := HB w0 [(gx, 23, #[.int .u64 x0, .int .u64 x1])] w
theorem mk1 {w0 w : World} {gx : Nat} {x0 x1 : Int} (h : S1 w0 gx x0 x1 w) : S1 w0 gx x0 x1 w ∧ (w.cell? ⟨gx, 0, none⟩ = some (.int .u64 x0) ∧ w.cell? ⟨gx, 1, none⟩ = some (.int .u64 x1)) :=
  ⟨h, (HB.two (t := 23) h (by simp)).2⟩
theorem keep1 {w0 w w' : World} {gx : Nat} {x0 x1 : Int} {P : Prop} (hb : Below w.heap.size w w') (h : S1 w0 gx x0 x1 w ∧ P) : S1 w0 gx x0 x1 w' := HB.below h.1 hb
theorem keepA {w0 w : World} {gx : Nat} {x0 x1 : Int} {P : Prop} (h : S1 w0 gx x0 x1 w ∧ P) (o : Obj) : S1 w0 gx x0 x1 (w.alloc o) := HB.alloc h.1 o
theorem hgA {w0 w : World} {gx : Nat} {x0 x1 : Int} {P : Prop} (h : S1 w0 gx x0 x1 w ∧ P) : w0.heap.size ≤ w.heap.size := h.1.1.size
theorem ne1 {w0 w : World} {gx g : Nat} {x0 x1 : Int} {cs : Array Value} (h : S1 w0 gx x0 x1 w) (B : Blk w g 27 cs) : ∀ b ∈ [(gx, (23 : TypeId), (#[.int .u64 x0, .int .u64 x1] : Array Value))], b.1 ≠ g := by
  intro b hb
  simp at hb
  subst hb
  have X : Blk w gx 23 #[.int .u64 x0, .int .u64 x1] := HB.blk h (by simp)
  exact Blk.ne_ X B (by decide)
def S2 (w0 : World) (gq gr : Nat) (a : Int) (w : World) : Prop := HB w0 [(gr, 23, #[.int .u64 0, .int .u64 0]), (gq, 27, #[.int .u64 a, .int .u64 0, .int .u64 0, .int .u64 0])] w
theorem mk2 {w0 w : World} {gq gr : Nat} {a : Int} (h : S2 w0 gq gr a w) : S2 w0 gq gr a w ∧ (w.cell? ⟨gq, 0, none⟩ = some (.int .u64 a) ∧ w.cell? ⟨gq, 1, none⟩ = some (.int .u64 0) ∧ w.cell? ⟨gq, 2, none⟩ = some (.int .u64 0) ∧ w.cell? ⟨gq, 3, none⟩ = some (.int .u64 0)) ∧ (w.cell? ⟨gr, 0, none⟩ = some (.int .u64 0) ∧ w.cell? ⟨gr, 1, none⟩ = some (.int .u64 0)) :=
  ⟨h, (HB.four (t := 27) h (by simp)).2, (HB.two (t := 23) h (by simp)).2⟩
theorem keep2 {w0 w w' : World} {gq gr : Nat} {a : Int} {P : Prop} (hb : Below w.heap.size w w') (h : S2 w0 gq gr a w ∧ P) : S2 w0 gq gr a w' := HB.below h.1 hb
theorem bel2 {w0 w : World} {gq gr : Nat} {a : Int} {P : Prop} (h : S2 w0 gq gr a w ∧ P) : Below w0.heap.size w0 w := h.1.1
/-- By a power of ten and back. -/
theorem divT {a x0 x1 m0 m1 m2 m3 q0 q1 q2 q3 r0 r1 : Int} {p : Bool} (ha : U64 a) (hx : 0 < v2 x0 x1) (hm : MulR a 0 x0 x1 m0 m1 m2 m3) (h : DivR m0 m1 m2 m3 x0 x1 q0 q1 q2 q3 r0 r1 p) :
    p = true ∧ a = q0 ∧ q1 = 0 ∧ q2 = 0 ∧ q3 = 0 ∧ r0 = 0 ∧ r1 = 0 := by
  obtain ⟨_, _, _, _, em⟩ := hm
  rcases h with ⟨hz, _⟩ | ⟨_, hp, u0, u1, u2, u3, s0, s1, eq, er⟩
  · omega
  · rw [em, Nat.mul_div_cancel _ hx] at eq
    rw [em, Nat.mul_mod_left] at er
    have e4 : v4 q0 q1 q2 q3 = v4 a 0 0 0 := by
      obtain ⟨n, rfl⟩ := Int.eq_ofNat_of_zero_le ha.1
      rw [eq, v4_n1]
      simp [v2]
    obtain ⟨e0, e1, e2, e3⟩ := v4_inj u0 u1 u2 u3 ha u64_0 u64_0 u64_0 e4
    have e5 : v2 r0 r1 = v2 0 0 := by rw [er]; simp [v2]
    obtain ⟨f0, f1⟩ := v2_inj s0 s1 u64_0 u64_0 e5
    exact ⟨hp, e0.symm, e1, e2, e3, f0, f1⟩
set_option maxRecDepth 100000 in
set_option maxHeartbeats 3200000 in
theorem walk (a0 : Int) (a1 : Int) (a2 : Int) (w0 : (Lit.int .i64 a0).wf = true) (w1 : (Lit.int .i64 a1).wf = true) (w2 : (Lit.int .u64 a2).wf = true) (w : World) :
    Calls Try.prog 8 #[.int .i64 a0, .int .i64 a1, .int .u64 a2] w fun e w' => e = .returned (.bool true) ∧ Below w.heap.size w w' := by
  have u2 := u64_of_wf w2
  clear w0 w1 w2
  go_enter Try.func8, Try.ntmps8
  go_wp2_with fail
  refine (pick_c a0 20 _ (by omega) (by omega)).mono ?_
  rintro e wa ⟨_, ⟨k, ⟨hk0, hk1⟩, rfl⟩, rfl, rfl⟩
  go_wp2_with fail
  refine (pick_c a1 19 _ (by omega) (by omega)).mono ?_
  rintro e wa ⟨_, ⟨j, ⟨hj0, hj1⟩, rfl⟩, rfl, rfl⟩
  go_wp2_with fail
  refine (ten_c k _).mono ?_
  rintro e wa ⟨_, ⟨x0, x1, p, HX, rfl⟩, rfl, hb⟩
  obtain ⟨rfl, hx0, hx1, ex⟩ := tenT HX (by omega) (by omega)
  have W := HB.start hb
  have EX := Lib.hid ex
  clear hb HX ex
  go_wp2_with fail
  refine (ten_c j _).mono ?_
  rintro e wb ⟨_, ⟨y0, y1, p, HY, rfl⟩, rfl, hb⟩
  obtain ⟨rfl, hy0, hy1, ey⟩ := tenT HY (by omega) (by omega)
  replace W := (W.push #[.int .u64 x0, .int .u64 x1] 23).below hb
  have EY := Lib.hid ey
  clear hb HY ey
  go_wp2_with fail
  refine (ten_c (k + j) _).mono ?_
  rintro e wc ⟨_, ⟨z0, z1, p, HZ, rfl⟩, rfl, hb⟩
  obtain ⟨rfl, hz0, hz1, ez⟩ := tenT HZ (by omega) (by omega)
  replace W := (W.push #[.int .u64 y0, .int .u64 y1] 23).below hb
  have EZ := Lib.hid ez
  clear hb HZ ez
  go_wp2_with fail
  refine (ten_c (k + 1) _).mono ?_
  rintro e wd ⟨_, ⟨n0, n1, p, HN, rfl⟩, rfl, hb⟩
  obtain ⟨rfl, hn0, hn1, en⟩ := tenT HN (by omega) (by omega)
  replace W := (W.push #[.int .u64 z0, .int .u64 z1] 23).below hb
  have EN := Lib.hid en
  clear hb HN en
  replace W := W.push #[.int .u64 n0, .int .u64 n1] 23
  have W7 : S7 w wa.heap.size wb.heap.size wc.heap.size wd.heap.size x0 x1 y0 y1 z0 z1 n0 n1 (wd.alloc (.cells #[.int .u64 n0, .int .u64 n1] 23)) := W
  clear W
  have u10 := u64_10
  have uz := u64_0
  have hm1 : 10 ^ (k + j).toNat = 10 ^ k.toNat * 10 ^ j.toNat := by rw [← Nat.pow_add]; congr 1; omega
  have hm2 : 10 ^ (k + 1).toNat = 10 ^ k.toNat * 10 := by rw [← Nat.pow_succ]; congr 1; omega
  have m1 : ∀ c0 c1 c2 c3, MulR x0 x1 y0 y1 c0 c1 c2 c3 → eqW4 c0 c1 c2 c3 z0 z1 0 0 = true := fun c0 c1 c2 c3 h => mulT EX.out EY.out hz0 hz1 (EZ.out.trans hm1) h
  have m2 : ∀ c0 c1 c2 c3, MulR x0 x1 10 0 c0 c1 c2 c3 → eqW4 c0 c1 c2 c3 n0 n1 0 0 = true := fun c0 c1 c2 c3 h => mulT EX.out v2_10 hn0 hn1 (EN.out.trans hm2) h
  have EX1 := Lib.hid (show 0 < v2 x0 x1 by rw [EX.out]; exact Nat.pow_pos (by decide))
  clear hm1 hm2 EY EZ EN hk0 hk1 hj0 hj1 EX
  go_upto_region 7 with fail
  go_cut [79] (fun s wx => s = .bool false ∧ S7 w wa.heap.size wb.heap.size wc.heap.size wd.heap.size x0 x1 y0 y1 z0 z1 n0 n1 wx)
  case first =>
    go_region_held3 (fun w' => S7 w wa.heap.size wb.heap.size wc.heap.size wd.heap.size x0 x1 y0 y1 z0 z1 n0 n1 w' ∧ (w'.cell? ⟨wa.heap.size, 0, none⟩ = some (.int .u64 x0) ∧ w'.cell? ⟨wa.heap.size, 1, none⟩ = some (.int .u64 x1)) ∧ (w'.cell? ⟨wb.heap.size, 0, none⟩ = some (.int .u64 y0) ∧ w'.cell? ⟨wb.heap.size, 1, none⟩ = some (.int .u64 y1)) ∧ (w'.cell? ⟨wc.heap.size, 0, none⟩ = some (.int .u64 z0) ∧ w'.cell? ⟨wc.heap.size, 1, none⟩ = some (.int .u64 z1)) ∧ (w'.cell? ⟨wd.heap.size, 0, none⟩ = some (.int .u64 n0) ∧ w'.cell? ⟨wd.heap.size, 1, none⟩ = some (.int .u64 n1))) (first | exact mk7 (HB.drew W7) | exact mk7 (keep7 hbx (by assumption))) (first | (go_at_call 15; refine (known_c _).mono ?_; rintro e wx ⟨_, rfl, rfl, hbx⟩) | (go_at_call 27; refine (mul_c _ _ _ _ _ (by assumption) (by assumption) (by assumption) (by assumption)).mono ?_; rintro e wx ⟨_, ⟨c0, c1, c2, c3, HM, rfl⟩, rfl, hbx⟩) | (go_at_call 20; refine (wide_c _ _ _).mono ?_; rintro e wx ⟨_, rfl, rfl, hbx⟩) | (go_at_call 10; refine (of_c _ _).mono ?_; rintro e wx ⟨_, rfl, rfl, hbx⟩))
    all_goals
      go_wp2_with fail
      go_meet
      case rel => exact ⟨rfl, And.left (by assumption)⟩
  case rest =>
    obtain ⟨rfl, HS⟩ := hcut
    have HX : S1 w wa.heap.size x0 x1 wc := HB.sub HS (by simp)
    clear HS W7 m1 m2 hy0 hy1 hz0 hz1 hn0 hn1
    go_upto_region 9 with fail
    go_cut [15] (fun s wx => ∃ (g : Nat) (m0 m1 m2 m3 : Int), s = .pointer (some ⟨g, 0, none⟩) ∧ MulR a2 0 x0 x1 m0 m1 m2 m3 ∧ HB w [(g, 27, #[.int .u64 m0, .int .u64 m1, .int .u64 m2, .int .u64 m3]), (wa.heap.size, 23, #[.int .u64 x0, .int .u64 x1])] wx)
    case first =>
      go_region_held3 (fun w' => S1 w wa.heap.size x0 x1 w' ∧ (w'.cell? ⟨wa.heap.size, 0, none⟩ = some (.int .u64 x0) ∧ w'.cell? ⟨wa.heap.size, 1, none⟩ = some (.int .u64 x1))) (first | exact mk1 (HB.drew HX) | exact mk1 HWx | exact mk1 (HB.alloc HWx _) | exact mk1 (keep1 hbx (by assumption)) | exact mk1 (keepA (by assumption) _) | exact mk1 (HB.sub (HB.set4 HWx BZ hgz (ne1 HWx BZ)) (by simp))) (first | (go_at_call 27; refine (mul_c _ _ _ _ _ (by assumption) (by assumption) (by assumption) (by assumption)).mono ?_; rintro e wx ⟨_, ⟨c0, c1, c2, c3, HM, rfl⟩, rfl, hbx⟩; have HWx := keep1 hbx (by assumption); (try (first | (replace BZ := BZ.below hbx BZ.lt; have z0 := BZ.cell 0; have z1 := BZ.cell 1; have z2 := BZ.cell 2; have z3 := BZ.cell 3; have f0 := BZ.frozen 0; have f1 := BZ.frozen 1; have f2 := BZ.frozen 2; have f3 := BZ.frozen 3; simp at z0 z1 z2 z3) | (have BZ := (Blk.new _ 27 #[.int .u64 0, .int .u64 0, .int .u64 0, .int .u64 0]).below hbx (by simp); have z0 := BZ.cell 0; have z1 := BZ.cell 1; have z2 := BZ.cell 2; have z3 := BZ.cell 3; have f0 := BZ.frozen 0; have f1 := BZ.frozen 1; have f2 := BZ.frozen 2; have f3 := BZ.frozen 3; simp at z0 z1 z2 z3)))) | (go_at_call 10; refine (of_c _ _).mono ?_; rintro e wx ⟨_, rfl, rfl, hbx⟩; (try (first | (have hgz := HX.1.size; have BZ := (Blk.new wc 27 #[.int .u64 0, .int .u64 0, .int .u64 0, .int .u64 0]).drew.below hbx (by simp)) | (have hgz := HX.1.size; have BZ := (Blk.new wc.drew 27 #[.int .u64 0, .int .u64 0, .int .u64 0, .int .u64 0]).below hbx (by simp)) | have hgz := (keep1 hbx (by assumption)).1.size))))
      all_goals
        go_wp2_with fail
        go_meet
        case rel => first | exact ⟨_, c0, c1, c2, c3, rfl, HM, HB.push HWx _ _⟩ | exact ⟨_, c0, c1, c2, c3, rfl, HM, HB.set4 HWx BZ hgz (ne1 HWx BZ)⟩
    case rest =>
      obtain ⟨g, m0, m1, m2, m3, rfl, HM, HH⟩ := hcut
      have cx := (HB.two (t := 23) (g := wa.heap.size) (a := .int .u64 x0) (b := .int .u64 x1) HH (by simp)).2
      have cm := (HB.four (t := 27) (g := g) (a := .int .u64 m0) (b := .int .u64 m1) (c := .int .u64 m2) (d := .int .u64 m3) HH (by simp)).2
      obtain ⟨cx0, cx1⟩ := cx
      obtain ⟨cm0, cm1, cm2, cm3⟩ := cm
      go_wp2_with fail
      refine (div_c m0 m1 m2 m3 x0 x1 _ HM.1 HM.2.1 HM.2.2.1 HM.2.2.2.1 hx0 hx1).mono ?_
      rintro e wq ⟨_, ⟨q0, q1, q2, q3, r0, r1, ok, HD, rfl⟩, rfl, hb⟩
      obtain ⟨rfl, rfl, rfl, rfl, rfl, rfl, rfl⟩ := divT u2 EX1.out HM HD
      have W := ((HB.start (HB.below HH hb).1).push #[.int .u64 a2, .int .u64 0, .int .u64 0, .int .u64 0] 27).push #[.int .u64 0, .int .u64 0] 23
      have WE : S2 w wq.heap.size (wq.alloc (.cells #[.int .u64 a2, .int .u64 0, .int .u64 0, .int .u64 0] 27)).heap.size a2 ((wq.alloc (.cells #[.int .u64 a2, .int .u64 0, .int .u64 0, .int .u64 0] 27)).alloc (.cells #[.int .u64 0, .int .u64 0] 23)) := W
      simp only [World.size_alloc] at WE
      clear W HH hb cx0 cx1 cm0 cm1 cm2 cm3 HX HM HD
      have qa := eqW4_yes (a := a2) (b := 0) (c := 0) (d := 0) ⟨rfl, rfl, rfl, rfl⟩
      have qb := eqW2_yes (a := 0) (b := 0) ⟨rfl, rfl⟩
      go_upto_region 11 with fail
      go_region_held3 (fun w' => S2 w wq.heap.size (wq.heap.size + 1) a2 w' ∧ (w'.cell? ⟨wq.heap.size, 0, none⟩ = some (.int .u64 a2) ∧ w'.cell? ⟨wq.heap.size, 1, none⟩ = some (.int .u64 0) ∧ w'.cell? ⟨wq.heap.size, 2, none⟩ = some (.int .u64 0) ∧ w'.cell? ⟨wq.heap.size, 3, none⟩ = some (.int .u64 0)) ∧ (w'.cell? ⟨wq.heap.size + 1, 0, none⟩ = some (.int .u64 0) ∧ w'.cell? ⟨wq.heap.size + 1, 1, none⟩ = some (.int .u64 0))) (first | exact mk2 (HB.drew WE) | exact mk2 (keep2 hbx (by assumption))) (first | (go_at_call 20; refine (wide_c _ _ _).mono ?_; rintro e wx ⟨_, rfl, rfl, hbx⟩) | (go_at_call 10; refine (of_c _ _).mono ?_; rintro e wx ⟨_, rfl, rfl, hbx⟩))
      all_goals
        have fin := bel2 (by assumption)
        go_wp2
        go_ret
        exact ⟨rfl, fin⟩

set_option maxRecDepth 100000 in
theorem lifted (os : Os) (started : os.Started) (H : Type) (enc : TypeId × Value → H) :
    ReturnsInHanded {} Try.checked os 8 .any (Rows.limbTensSpec.pre6 enc Try.prog Try.f8 Rows.limbTensRow.domain false) (Rows.limbTensSpec.post enc Try.prog Try.f8 false true false false) := by
  refine returnsInHanded_of_change (C := Try.checked) own started (by kernel_rfl) Try.func8
    (ChangeSpec.witness6 (enc := enc) (C := Try.checked) false ⟨#[], #[.int .i64 0, .int .i64 0, .int .u64 0], []⟩ 8 (by kernel_rfl) (by kernel_rfl) (by kernel_rfl) (by kernel_rfl)) ?_
  intro W base args ds gs before hval0 hW hcnd _
  have hval : ∀ (j : Nat) t v, Try.f8.params[j]? = some t → args[j]? = some v → Value.okWide Try.prog W .any base t v := hval0
  have hW' := hW
  obtain ⟨p, q, hA0, hV, rfl, hfz, hnd⟩ := hW
  have hA : DataW.TrodAll enc Try.prog W 0 (fun _ => true) true Try.f8.params.toList args.toList ds p := hA0
  rw [Try.params8] at hA hval
  obtain ⟨v0, vs0, d0, ds0, p0, q0, hargs, rfl, rfl, h0, r0⟩ := trodAll_cons hA
  obtain ⟨v1, vs1, d1, ds1, p1, q1, rfl, rfl, rfl, h1, r1⟩ := trodAll_cons r0
  obtain ⟨v2, vs2, d2, ds2, p2, q2, rfl, rfl, rfl, h2, r2⟩ := trodAll_cons r1
  obtain ⟨rfl, rfl, rfl⟩ := trodAll_nil r2
  obtain rfl : args = #[v0, v1, v2] := by cases args; simp_all
  obtain ⟨rfl, rfl⟩ := trodVars_none hV
  obtain ⟨a0, rfl, rfl, rfl, w0⟩ := open_int Try.underlying3 (hval 0 3 v0 rfl rfl) h0
  obtain ⟨a1, rfl, rfl, rfl, w1⟩ := open_int Try.underlying3 (hval 1 3 v1 rfl rfl) h1
  obtain ⟨a2, rfl, rfl, rfl, w2⟩ := open_int Try.underlying22 (hval 2 22 v2 rfl rfl) h2
  clear hA0 hval0
  simp only [List.append_nil] at hW'
  refine (walk a0 a1 a2 w0 w1 w2 W).mono fun e W' ⟨he, hg⟩ => ?_
  subst he
  exact ⟨_, rfl, post_bel (pa := []) (pv := []) hW' (fun _ _ _ => (trodAll_cons_mk (shut_bool Try.underlying4 _) trodAll_mk0)) (fun sp _ => (trodAll_cons_mk (shut_int Try.underlying3 w0) (trodAll_cons_mk (shut_int Try.underlying3 w1) (trodAll_cons_mk (shut_int Try.underlying22 w2) trodAll_mk0)))) (fun _ _ => rfl) rfl
    hg (ok_one (by kernel_rfl) rfl (okWide_bool_mk Try.underlying4 _))⟩

theorem over : Rows.limbTensRow.holds Try.pinned (OpenSpec.ofChange Rows.limbTensSpec) :=
  OpenClaim.holds_of_wide 8 Try.f8 rfl rfl rfl rfl rfl rfl rfl ⟨rfl, rfl, rfl, rfl, rfl⟩ rfl rfl rfl rfl rfl (by kernel_rfl) Try.func8 (by kernel_rfl)
    (of_decide_eq_true (by kernel_rfl)) (by unfold Func.isWrapper; first | (rw [if_pos (by decide +kernel)]; kernel_rfl) | (rw [if_neg (by decide +kernel)]; exact ⟨rfl, rfl⟩))
    (fun os started H enc _ => lifted os started H enc)

/-- The given statement. -/
theorem proved : Rows.LimbTensSaid :=
  over
#print axioms proved
end Go.Proofs.Ytipkchgibomgkaa.limbTens

/- For every input 'LimbTells' returns true and leaves its arguments as they were. No condition. -/
import Derived.Test.YtdpkmhgmglljjaaRows
import Derived.WalkKit
import Derived.ProofKit
import Derived.OpenShut
import Derived.Test.YtdpkmhgmglljjaaTellsA
import Derived.Test.YtdpkmhgmglljjaaKnownA
import Derived.Test.YtdpkmhgmglljjaaDet
import Derived.Test.YtdpkmhgmglljjaaPost
namespace Go.Proofs.Ytdpkmhgmglljjaa.limbTells
open Go.ChangeShapes Go.WideShapes Go.ChangeAt Go.RowKit
set_option linter.unusedVariables false

theorem own : ownKnob Try.prog.godebug = none := by kernel_rfl

theorem mkT {w wx : World} {gq : Nat} {q0 q1 q2 q3 g0 g1 : Int} {bs : List (Nat × TypeId × Array Value)} (h : HB w ((gq + 1, 23, #[.int .u64 g0, .int .u64 g1]) :: (gq, 27, #[.int .u64 q0, .int .u64 q1, .int .u64 q2, .int .u64 q3]) :: bs) wx) :
    HB w ((gq + 1, 23, #[.int .u64 g0, .int .u64 g1]) :: (gq, 27, #[.int .u64 q0, .int .u64 q1, .int .u64 q2, .int .u64 q3]) :: bs) wx ∧ (wx.cell? ⟨gq, 0, none⟩ = some (.int .u64 q0) ∧ wx.cell? ⟨gq, 1, none⟩ = some (.int .u64 q1) ∧ wx.cell? ⟨gq, 2, none⟩ = some (.int .u64 q2) ∧ wx.cell? ⟨gq, 3, none⟩ = some (.int .u64 q3)) ∧ (wx.cell? ⟨gq + 1, 0, none⟩ = some (.int .u64 g0) ∧ wx.cell? ⟨gq + 1, 1, none⟩ = some (.int .u64 g1)) :=
  ⟨h, (HB.four (t := 27) h (by simp)).2, (HB.two (t := 23) h (by simp)).2⟩
set_option maxRecDepth 100000 in
set_option maxHeartbeats 12800000 in
theorem walk (a0 : Int) (a1 : Int) (a2 : Int) (a3 : Int) (a4 : Int) (a5 : Int) (a6 : Int) (a7 : Bool) (w0 : (Lit.int .u64 a0).wf = true) (w1 : (Lit.int .u64 a1).wf = true) (w2 : (Lit.int .u64 a2).wf = true) (w3 : (Lit.int .u64 a3).wf = true) (w4 : (Lit.int .i64 a4).wf = true) (w5 : (Lit.int .i64 a5).wf = true) (w6 : (Lit.int .i64 a6).wf = true) (w : World) :
    Calls Try.prog 4 #[.int .u64 a0, .int .u64 a1, .int .u64 a2, .int .u64 a3, .int .i64 a4, .int .i64 a5, .int .i64 a6, .bool a7] w fun e w' => e = .returned (.bool true) ∧ Below w.heap.size w w' := by
  have u0 := u64_of_wf w0
  have u1 := u64_of_wf w1
  have u2 := u64_of_wf w2
  have u3 := u64_of_wf w3
  clear w0 w1 w2 w3 w4 w5 w6
  go_enter Try.func4, Try.ntmps4
  go_wp2_with fail
  refine (words_l a0 a1 a4 _ u0 u1).mono ?_
  rintro e wa ⟨_, ⟨x0, x1, ⟨hx0, hx1⟩, rfl⟩, rfl, hb⟩
  have W := HB.start hb
  clear hb
  go_wp2_with fail
  refine (words_l a2 a3 a5 _ u2 u3).mono ?_
  rintro e wb ⟨_, ⟨y0, y1, ⟨hy0, hy1⟩, rfl⟩, rfl, hb⟩
  replace W := (W.push #[.int .u64 x0, .int .u64 x1] 23).below hb
  have hsz := W.1.size
  obtain ⟨lx, cx0, cx1⟩ := HB.two (t := 23) (g := wa.heap.size) (a := .int .u64 x0) (b := .int .u64 x1) W (by simp)
  clear hb
  have W3 : B3 w wa.heap.size wb.heap.size (wb.heap.size + 1) x0 x1 y0 y1 y1 ((wb.alloc (.cells #[.int .u64 y0, .int .u64 y1] 23)).alloc (.cells #[.int .u64 x0, .int .u64 x1, .int .u64 y0, .int .u64 y1] 27)) := by
    have h := (W.push #[.int .u64 y0, .int .u64 y1] 23).push #[.int .u64 x0, .int .u64 x1, .int .u64 y0, .int .u64 y1] 27
    unfold B3
    simpa using h
  have W4 : B3 w wa.heap.size wb.heap.size (wb.heap.size + 1) x0 x1 y0 y1 0 ((wb.alloc (.cells #[.int .u64 y0, .int .u64 y1] 23)).alloc (.cells #[.int .u64 x0, .int .u64 x1, .int .u64 y0, .int .u64 0] 27)) := by
    have h := (W.push #[.int .u64 y0, .int .u64 y1] 23).push #[.int .u64 x0, .int .u64 x1, .int .u64 y0, .int .u64 0] 27
    unfold B3
    simpa using h
  have W3h := Lib.hid W3
  have W4h := Lib.hid W4
  clear W3 W4 W
  go_upto_if 57 with (fail)
  go_cut [57] (fun _ wx => ∃ z : Int, U64 z ∧ B3 w wa.heap.size wb.heap.size (wb.heap.size + 1) x0 x1 y0 y1 z wx)
  case first => as_aux_lemma =>
    go_wp2
    all_goals
      go_meet
      case rel => first | exact ⟨0, u64_0, W4h.out⟩ | exact ⟨y1, hy1, W3h.out⟩
  case rest => as_aux_lemma =>
    clear W3h W4h cx0 cx1
    obtain ⟨z, hz, W⟩ := hcut
    generalize hgw : wb.heap.size + 1 = gw at W ⊢
    generalize hgy : wb.heap.size = gy at W ⊢
    generalize hgx : wa.heap.size = gx at W ⊢
    clear hgw hgy hgx hsz lx
    have Wh := Lib.hid W
    clear W
    go_upto_if 60 with (fail)
    go_cut [6, 60] (fun s t wx => ∃ k : Int, s = .int .i64 k ∧ (t = .bool true ∨ t = .bool false) ∧ B3 w gx gy gw x0 x1 y0 y1 z wx)
    case first => as_aux_lemma =>
      cases a7
      · go_wp2_with fail
        refine (pick_c a6 300 _ (by omega) (by omega)).mono ?_
        rintro e wp ⟨_, ⟨k, ⟨hk0, hk1⟩, rfl⟩, rfl, rfl⟩
        go_wp2
        go_meet
        case rel => exact ⟨_, rfl, Or.inl rfl, Wh.out⟩
      · go_wp2
        go_meet
        case rel => exact ⟨_, rfl, Or.inr rfl, Wh.out⟩
    case rest => as_aux_lemma =>
      clear Wh
      obtain ⟨k, rfl, -, W⟩ := hcut
      unfold B3 at W
      obtain ⟨lcx, cx0, cx1⟩ := HB.two (t := 23) (g := gx) (a := .int .u64 x0) (b := .int .u64 x1) W (by simp)
      obtain ⟨lcy, cy0, cy1⟩ := HB.two (t := 23) (g := gy) (a := .int .u64 y0) (b := .int .u64 y1) W (by simp)
      go_wp2_with fail
      refine (nat2_c x0 x1 _ hx0 hx1).mono ?_
      rintro e r1 ⟨A1, n1, k1, d1, ⟨D1, N1, E1⟩, rfl, hb⟩
      replace W := W.below hb
      clear hb lcx cx0 cx1 lcy cy0 cy1
      have l1 : n1 ≤ 40 := lenA D1 N1 (by rw [E1]; exact v2_40 hx0 hx1)
      have E1h := Lib.hid E1
      clear E1
      obtain ⟨lcy, cy0, cy1⟩ := HB.two (t := 23) (g := gy) (a := .int .u64 y0) (b := .int .u64 y1) W (by simp)
      go_wp2_with fail
      refine (nat2_c y0 y1 _ hy0 hy1).mono ?_
      rintro e r2 ⟨A2, n2, k2, d2, ⟨D2, N2, E2⟩, rfl, hb⟩
      replace W := W.below hb
      replace D1 := D1.below hb
      clear hb lcy cy0 cy1
      have l2 : n2 ≤ 40 := lenA D2 N2 (by rw [E2]; exact v2_40 hy0 hy1)
      have E2h := Lib.hid E2
      clear E2
      obtain ⟨lcx, cx0, cx1⟩ := HB.two (t := 23) (g := gx) (a := .int .u64 x0) (b := .int .u64 x1) W (by simp)
      obtain ⟨lcy, cy0, cy1⟩ := HB.two (t := 23) (g := gy) (a := .int .u64 y0) (b := .int .u64 y1) W (by simp)
      go_wp2_with fail
      refine (add_c x0 x1 y0 y1 _ hx0 hx1 hy0 hy1).mono ?_
      rintro e r3 ⟨_, ⟨s0, s1, p, HA, rfl⟩, rfl, hb⟩
      replace W := W.below hb
      replace D1 := D1.below hb
      replace D2 := D2.below hb
      clear hb lcx cx0 cx1 lcy cy0 cy1
      replace W := W.push #[.int .u64 s0, .int .u64 s1] 23
      replace D1 := D1.alloc (.cells #[.int .u64 s0, .int .u64 s1] 23)
      replace D2 := D2.alloc (.cells #[.int .u64 s0, .int .u64 s1] 23)
      go_wp2_with fail
      refine (addNat_c A1 A2 n1 n2 k1 k2 d1 d2 _ D1 D2 (by omega) (by omega)).mono ?_
      rintro e r4 ⟨A3, n3, k3, d3, ⟨D3, N3, E3⟩, rfl, hb⟩
      replace W := W.below hb
      replace D1 := D1.below hb
      replace D2 := D2.below hb
      clear hb
      rw [E1h.out, E2h.out] at E3
      have l3 : n3 ≤ 41 := lenA D3 N3 (by rw [E3]; exact v2_41 hx0 hx1 hy0 hy1)
      have E3h := Lib.hid E3
      clear E3
      go_wp2_with fail
      refine (words2_c A3 n3 k3 d3 _ D3 (by omega)).mono ?_
      rintro e r5 ⟨_, ⟨t0, t1, q, HT, rfl⟩, rfl, hb⟩
      replace W := W.below hb
      replace D1 := D1.below hb
      replace D2 := D2.below hb
      clear hb D3
      rw [E3h.out] at HT
      obtain ⟨rfl, rfl, rfl⟩ := add_same HA HT
      clear HA HT E3h
      have q1 := eqW2_yes (a := s0) (b := s1) (c := s0) (d := s1) ⟨rfl, rfl⟩
      obtain ⟨c, hc⟩ : ∃ c, cmpI (v2 x0 x1) (v2 y0 y1) = c := ⟨_, rfl⟩
      have HCc := Lib.hid hc
      clear hc
      have hcc : (c != c) = false := by simp
      obtain ⟨lcs, cs0, cs1⟩ := HB.two (t := 23) (g := r3.heap.size) (a := .int .u64 s0) (b := .int .u64 s1) W (by simp)
      obtain ⟨lcx, cx0, cx1⟩ := HB.two (t := 23) (g := gx) (a := .int .u64 x0) (b := .int .u64 x1) W (by simp)
      obtain ⟨lcy, cy0, cy1⟩ := HB.two (t := 23) (g := gy) (a := .int .u64 y0) (b := .int .u64 y1) W (by simp)
      replace W := W.push #[.int .u64 s0, .int .u64 s1] 23
      replace D1 := D1.alloc (.cells #[.int .u64 s0, .int .u64 s1] 23)
      replace D2 := D2.alloc (.cells #[.int .u64 s0, .int .u64 s1] 23)
      go_wp2_with fail
      refine (cmp_k x0 x1 y0 y1 c _ HCc.out hx0 hx1 hy0 hy1).mono ?_
      rintro e r6 ⟨_, rfl, rfl, hb⟩
      replace W := W.below hb
      replace D1 := D1.below hb
      replace D2 := D2.below hb
      clear hb lcx cx0 cx1 lcy cy0 cy1 lcs cs0 cs1
      replace W := HB.sub W (bs' := [(gw, 27, #[.int .u64 x0, .int .u64 x1, .int .u64 y0, .int .u64 z]), (gy, 23, #[.int .u64 y0, .int .u64 y1]), (gx, 23, #[.int .u64 x0, .int .u64 x1])]) (by simp)
      go_wp2_with fail
      refine (cmpNat_k A1 A2 n1 n2 k1 k2 d1 d2 _ _ c _ D1 D2 N1 N2 E1h.out E2h.out HCc.out).mono ?_
      rintro e r7 ⟨_, rfl, rfl, hb⟩
      replace W := W.below hb
      replace D1 := D1.below hb
      replace D2 := D2.below hb
      clear hb
      obtain ⟨lcx, cx0, cx1⟩ := HB.two (t := 23) (g := gx) (a := .int .u64 x0) (b := .int .u64 x1) W (by simp)
      obtain ⟨lcy, cy0, cy1⟩ := HB.two (t := 23) (g := gy) (a := .int .u64 y0) (b := .int .u64 y1) W (by simp)
      go_wp2_with fail
      refine (mul_c x0 x1 y0 y1 _ hx0 hx1 hy0 hy1).mono ?_
      rintro e r8 ⟨_, ⟨c0, c1, c2, c3, HM, rfl⟩, rfl, hb⟩
      replace W := W.below hb
      replace D1 := D1.below hb
      replace D2 := D2.below hb
      clear hb lcx cx0 cx1 lcy cy0 cy1
      go_wp2_with fail
      refine (mulNat_c A1 A2 n1 n2 k1 k2 d1 d2 _ D1 D2 (by omega) (by omega)).mono ?_
      rintro e r9 ⟨A3, n3, k3, d3, ⟨D3, N3, E3⟩, rfl, hb⟩
      replace W := W.below hb
      replace D1 := D1.below hb
      replace D2 := D2.below hb
      clear hb
      rw [E1h.out, E2h.out] at E3
      have l3 : n3 ≤ 160 := lenA D3 N3 (by rw [E3]; exact mul_80 hx0 hx1 hy0 hy1)
      have E3h := Lib.hid E3
      clear E3
      go_wp2_with fail
      refine (words4_c A3 n3 k3 d3 _ D3 (by omega)).mono ?_
      rintro e r10 ⟨_, ⟨e0, e1, e2, e3, HT, rfl⟩, rfl, hb⟩
      replace W := W.below hb
      replace D1 := D1.below hb
      replace D2 := D2.below hb
      clear hb D3
      rw [E3h.out] at HT
      obtain ⟨rfl, rfl, rfl, rfl⟩ := mul_same HM HT
      have q2 := eqW4_yes (a := e0) (b := e1) (c := e2) (d := e3) (a' := e0) (b' := e1) (c' := e2) (d' := e3) ⟨rfl, rfl, rfl, rfl⟩
      clear HM HT E3h N3 l3
      obtain ⟨lcx, cx0, cx1⟩ := HB.two (t := 23) (g := gx) (a := .int .u64 x0) (b := .int .u64 x1) W (by simp)
      obtain ⟨lcy, cy0, cy1⟩ := HB.two (t := 23) (g := gy) (a := .int .u64 y0) (b := .int .u64 y1) W (by simp)
      go_wp2_with fail
      refine (sub_c x0 x1 y0 y1 _ hx0 hx1 hy0 hy1).mono ?_
      rintro e r11 ⟨_, ⟨u0, u1, is, HS, rfl⟩, rfl, hb⟩
      replace W := W.below hb
      replace D1 := D1.below hb
      replace D2 := D2.below hb
      clear hb lcx cx0 cx1 lcy cy0 cy1 q1 q2 hcc
      replace W := W.push #[.int .u64 u0, .int .u64 u1] 23
      replace D1 := D1.alloc (.cells #[.int .u64 u0, .int .u64 u1] 23)
      replace D2 := D2.alloc (.cells #[.int .u64 u0, .int .u64 u1] 23)
      go_upto_region 15 with fail
      go_cut [140] (fun s wx => s = .bool false ∧ B3 w gx gy gw x0 x1 y0 y1 z wx ∧ DigC wx A1 n1 k1 d1 ∧ DigC wx A2 n2 k2 d2)
      case first => as_aux_lemma =>
        obtain ⟨hu0, hu1, ⟨hle, rfl, hu⟩ | ⟨hlt, rfl, rfl, rfl⟩⟩ := HS
        · have hc0 : 0 ≤ c := by
            obtain ⟨z', e1, e2⟩ := cmpI_up hle
            rw [← HCc.out, e1]; exact e2
          have HU := Lib.hid hu
          clear hu hle
          go_wp2_with fail
          refine (cmpNat_k A1 A2 n1 n2 k1 k2 d1 d2 _ _ c _ D1 D2 N1 N2 E1h.out E2h.out HCc.out).mono ?_
          rintro e r12 ⟨_, rfl, rfl, hb⟩
          replace W := W.below hb
          replace D1 := D1.below hb
          replace D2 := D2.below hb
          clear hb
          obtain ⟨lcu, cu0, cu1⟩ := HB.two (t := 23) (g := r11.heap.size) (a := .int .u64 u0) (b := .int .u64 u1) W (by simp)
          go_wp2_with fail
          refine (nat2_c u0 u1 _ hu0 hu1).mono ?_
          rintro e r13 ⟨A3, n3, k3, d3, ⟨D3, N3, E3⟩, rfl, hb⟩
          replace W := W.below hb
          replace D1 := D1.below hb
          replace D2 := D2.below hb
          clear hb lcu cu0 cu1
          have l3 : n3 ≤ 40 := lenA D3 N3 (by rw [E3]; exact v2_40 hu0 hu1)
          have E3h := Lib.hid E3
          clear E3
          go_wp2_with fail
          refine (addNat_c A3 A2 n3 n2 k3 k2 d3 d2 _ D3 D2 (by omega) (by omega)).mono ?_
          rintro e r14 ⟨A4, n4, k4, d4, ⟨D4, N4, E4⟩, rfl, hb⟩
          replace W := W.below hb
          replace D1 := D1.below hb
          replace D2 := D2.below hb
          clear hb D3
          rw [E3h.out, E2h.out, HU.out] at E4
          have E4h := Lib.hid E4
          clear E4
          go_wp2_with fail
          refine (cmpNat_k A4 A1 n4 n1 k4 k1 d4 d1 _ _ 0 _ D4 D1 N4 N1 E4h.out E1h.out (cmpI_eq rfl)).mono ?_
          rintro e r15 ⟨_, rfl, rfl, hb⟩
          replace W := W.below hb
          replace D1 := D1.below hb
          replace D2 := D2.below hb
          clear hb D4
          go_wp2
          go_meet
          case rel => exact ⟨rfl, HB.sub W (by simp), D1, D2⟩
        · have hc0 : c = -1 := by rw [← HCc.out]; exact cmpI_lt hlt
          subst hc0
          have q1 := eqW2_yes (a := 0) (b := 0) (c := 0) (d := 0) ⟨rfl, rfl⟩
          clear hlt
          go_wp2_with fail
          refine (cmpNat_k A1 A2 n1 n2 k1 k2 d1 d2 _ _ (-1) _ D1 D2 N1 N2 E1h.out E2h.out HCc.out).mono ?_
          rintro e r12 ⟨_, rfl, rfl, hb⟩
          replace W := W.below hb
          replace D1 := D1.below hb
          replace D2 := D2.below hb
          clear hb
          obtain ⟨lcu, cu0, cu1⟩ := HB.two (t := 23) (g := r11.heap.size) (a := .int .u64 0) (b := .int .u64 0) W (by simp)
          go_wp2
          go_meet
          case rel => exact ⟨rfl, HB.sub W (by simp), D1, D2⟩
      case rest => as_aux_lemma =>
        clear W D1 D2 HS HCc
        obtain ⟨rfl, W, D1, D2⟩ := hcut
        unfold B3 at W
        obtain ⟨lcw, cw0, cw1, cw2, cw3⟩ := HB.four (t := 27) (g := gw) (a := .int .u64 x0) (b := .int .u64 x1) (c := .int .u64 y0) (d := .int .u64 z) W (by simp)
        obtain ⟨lcx, cx0, cx1⟩ := HB.two (t := 23) (g := gx) (a := .int .u64 x0) (b := .int .u64 x1) W (by simp)
        go_wp2_with fail
        refine (div_c x0 x1 y0 z x0 x1 _ hx0 hx1 hy0 hz hx0 hx1).mono ?_
        rintro e r16 ⟨_, ⟨q0, q1, q2, q3, g0, g1, ok, HD, rfl⟩, rfl, hb⟩
        replace W := W.below hb
        replace D1 := D1.below hb
        replace D2 := D2.below hb
        clear hb lcw cw0 cw1 cw2 cw3 lcx cx0 cx1
        replace W := W.push #[.int .u64 q0, .int .u64 q1, .int .u64 q2, .int .u64 q3] 27
        replace D1 := D1.alloc (.cells #[.int .u64 q0, .int .u64 q1, .int .u64 q2, .int .u64 q3] 27)
        replace D2 := D2.alloc (.cells #[.int .u64 q0, .int .u64 q1, .int .u64 q2, .int .u64 q3] 27)
        replace W := W.push #[.int .u64 g0, .int .u64 g1] 23
        replace D1 := D1.alloc (.cells #[.int .u64 g0, .int .u64 g1] 23)
        replace D2 := D2.alloc (.cells #[.int .u64 g0, .int .u64 g1] 23)
        simp only [World.size_alloc] at W
        have HDh := Lib.hid HD
        have HOK := div_ok HD D1 N1 E1h.out
        clear HD
        go_upto_region 18 with fail
        go_cut [152] (fun s wx => s = .bool false ∧ HB w ((r16.heap.size + 1, 23, #[.int .u64 g0, .int .u64 g1]) :: (r16.heap.size, 27, #[.int .u64 q0, .int .u64 q1, .int .u64 q2, .int .u64 q3]) :: [(gw, 27, #[.int .u64 x0, .int .u64 x1, .int .u64 y0, .int .u64 z]), (gy, 23, #[.int .u64 y0, .int .u64 y1]), (gx, 23, #[.int .u64 x0, .int .u64 x1])]) wx ∧ DigC wx A1 n1 k1 d1 ∧ DigC wx A2 n2 k2 d2)
        case first => as_aux_lemma =>
          rcases HOK with ⟨rfl, hp⟩ | ⟨rfl, rfl⟩
          all_goals
            go_wp2
            go_meet
            case rel => exact ⟨rfl, W, D1, D2⟩
        case rest => as_aux_lemma =>
          clear W D1 D2 HOK
          obtain ⟨rfl, W, D1, D2⟩ := hcut
          go_upto_if 153 with (fail)
          go_cut [153] (fun _ wx => B3 w gx gy gw x0 x1 y0 y1 z wx ∧ DigC wx A1 n1 k1 d1 ∧ DigC wx A2 n2 k2 d2)
          case first => as_aux_lemma =>
            cases ok
            · go_wp2
              go_meet
              case rel => exact ⟨HB.sub W (by simp), D1, D2⟩
            · obtain ⟨⟨hg0, hg1⟩, hgc, hxp⟩ := div_rem HDh.out
              have HGC := Lib.hid hgc
              have q3' := eqW4_yes (a := q0) (b := q1) (c := q2) (d := q3) (a' := q0) (b' := q1) (c' := q2) (d' := q3) ⟨rfl, rfl, rfl, rfl⟩
              clear hgc
              obtain ⟨lcw, cw0, cw1, cw2, cw3⟩ := HB.four (t := 27) (g := gw) (a := .int .u64 x0) (b := .int .u64 x1) (c := .int .u64 y0) (d := .int .u64 z) W (by simp)
              go_wp2_with fail
              refine (nat4_c x0 x1 y0 z _ hx0 hx1 hy0 hz).mono ?_
              rintro e r17 ⟨A3, n3, k3, d3, ⟨D3, N3, E3⟩, rfl, hb⟩
              replace W := W.below hb
              replace D1 := D1.below hb
              replace D2 := D2.below hb
              clear hb lcw cw0 cw1 cw2 cw3
              have l3 : n3 ≤ 80 := lenA D3 N3 (by rw [E3]; exact lt80 (v4_lt hx0 hx1 hy0 hz))
              have E3h := Lib.hid E3
              clear E3
              go_wp2_with fail
              refine (divNat_c A3 A1 n3 n1 k3 k1 d3 d1 _ D3 D1 N1 (by omega) (by omega) (by rw [E1h.out]; exact hxp)).mono ?_
              rintro e r18 ⟨A4, n4, k4, d4, A5, n5, k5, d5, ⟨D4, N4, E4, -⟩, ⟨D5, N5, E5, -⟩, rfl, hb⟩
              replace W := W.below hb
              replace D1 := D1.below hb
              replace D2 := D2.below hb
              clear hb D3
              rw [E3h.out, E1h.out] at E4 E5
              have l4 : n4 ≤ 80 := lenA D4 N4 (by rw [E4]; exact lt80 (Nat.lt_of_le_of_lt (Nat.div_le_self _ _) (v4_lt hx0 hx1 hy0 hz)))
              have E4h := Lib.hid E4
              clear E4
              have E5h := Lib.hid E5
              clear E5
              have Wh := Lib.hid W
              clear W
              go_upto_region 22 with fail
              go_region_held3 (fun w' => HB w ((r16.heap.size + 1, 23, #[.int .u64 g0, .int .u64 g1]) :: (r16.heap.size, 27, #[.int .u64 q0, .int .u64 q1, .int .u64 q2, .int .u64 q3]) :: [(gw, 27, #[.int .u64 x0, .int .u64 x1, .int .u64 y0, .int .u64 z]), (gy, 23, #[.int .u64 y0, .int .u64 y1]), (gx, 23, #[.int .u64 x0, .int .u64 x1])]) w' ∧ (w'.cell? ⟨r16.heap.size, 0, none⟩ = some (.int .u64 q0) ∧ w'.cell? ⟨r16.heap.size, 1, none⟩ = some (.int .u64 q1) ∧ w'.cell? ⟨r16.heap.size, 2, none⟩ = some (.int .u64 q2) ∧ w'.cell? ⟨r16.heap.size, 3, none⟩ = some (.int .u64 q3)) ∧ (w'.cell? ⟨r16.heap.size + 1, 0, none⟩ = some (.int .u64 g0) ∧ w'.cell? ⟨r16.heap.size + 1, 1, none⟩ = some (.int .u64 g1)))
                (first | exact mkT (HB.drew Wh.out) | exact mkT (keepB hbx (by assumption)))
                (first
                  | (go_at_call 28; (with_reducible refine (words4_c A4 n4 k4 d4 _ (by exact D4.drew) (by omega)).mono ?_); rintro e wx ⟨_, ⟨e0, e1, e2, e3, HT, rfl⟩, rfl, hbx⟩; rw [E4h.out] at HT; obtain ⟨rfl, rfl, rfl, rfl⟩ := div_same HDh.out hx0 hx1 hy0 hz HT; clear HT; replace D1 := D1.drew.below hbx; replace D2 := D2.drew.below hbx; replace D5 := D5.drew.below hbx)
                  | (go_at_call 23; (with_reducible refine (nat2_c g0 g1 _ hg0 hg1).mono ?_); rintro e wx ⟨A6, n6, k6, d6, ⟨D6, N6, E6⟩, rfl, hbx⟩; have E6h := Lib.hid E6; clear E6; replace D1 := D1.below hbx; replace D2 := D2.below hbx; replace D5 := D5.below hbx)
                  | (go_at_call 26; (with_reducible refine (cmpNat_k A6 A5 n6 n5 k6 k5 d6 d5 _ _ 0 _ (by exact D6) (by exact D5) N6 N5 E6h.out E5h.out HGC.out).mono ?_); rintro e wx ⟨_, rfl, rfl, hbx⟩; replace D1 := D1.below hbx; replace D2 := D2.below hbx))
              all_goals
                rename_i hHeld
                have W := hHeld.1
                clear hHeld
                go_wp2
                go_meet
                case rel => exact ⟨HB.sub W (by simp), D1, D2⟩
          case rest => as_aux_lemma =>
            clear W D1 D2 HDh
            obtain ⟨W, D1, D2⟩ := hcut
            unfold B3 at W
            obtain ⟨lcw, cw0, cw1, cw2, cw3⟩ := HB.four (t := 27) (g := gw) (a := .int .u64 x0) (b := .int .u64 x1) (c := .int .u64 y0) (d := .int .u64 z) W (by simp)
            go_wp2_with fail
            refine (short_c x0 x1 y0 z _).mono ?_
            rintro e r19 ⟨_, ⟨s0, s1, ft, HS, rfl⟩, rfl, hb⟩
            replace W := W.below hb
            clear hb lcw cw0 cw1 cw2 cw3 D1 D2
            obtain ⟨lcw, cw0, cw1, cw2, cw3⟩ := HB.four (t := 27) (g := gw) (a := .int .u64 x0) (b := .int .u64 x1) (c := .int .u64 y0) (d := .int .u64 z) W (by simp)
            replace W := W.push #[.int .u64 s0, .int .u64 s1] 23
            go_upto_region 25 with fail
            go_cut [207] (fun s wx => s = .bool false ∧ B3 w gx gy gw x0 x1 y0 y1 z wx)
            case first => as_aux_lemma =>
              have W' : B3 w gx gy gw x0 x1 y0 y1 z _ := HB.sub W (by simp)
              have Wh := Lib.hid W'
              clear W W'
              rcases short_3 HS with ⟨rfl, rfl, rfl, rfl, rfl⟩ | ⟨rfl, hc, rfl, rfl⟩ | ⟨rfl, rfl, hd, rfl, rfl⟩
              · have q1 := eqW2_yes (a := s0) (b := s1) (c := s0) (d := s1) ⟨rfl, rfl⟩
                clear HS
                go_wp2
                go_meet
                case rel => exact ⟨rfl, Wh.out⟩
              · have q1 := eqW2_yes (a := 0) (b := 0) (c := 0) (d := 0) ⟨rfl, rfl⟩
                have g1 : (y0 == 0) = false := by simp [hc]
                clear HS hc
                go_wp2
                go_meet
                case rel => exact ⟨rfl, Wh.out⟩
              · have q1 := eqW2_yes (a := 0) (b := 0) (c := 0) (d := 0) ⟨rfl, rfl⟩
                have g1 : (z == 0) = false := by simp [hd]
                clear HS hd
                go_wp2
                go_meet
                case rel => exact ⟨rfl, Wh.out⟩
            case rest => as_aux_lemma =>
              clear W HS lcw cw0 cw1 cw2 cw3
              obtain ⟨rfl, W⟩ := hcut
              go_wp2_with fail
              refine (pick_c k 45 _ (by omega) (by omega)).mono ?_
              rintro e wp ⟨_, ⟨j, ⟨hj0, hj1⟩, rfl⟩, rfl, rfl⟩
              go_wp2_with fail
              refine (ten_c (j - 3) _).mono ?_
              rintro e r20 ⟨_, ⟨t0, t1, o, HS, rfl⟩, rfl, hb⟩
              replace W := W.below hb
              clear hb
              replace W := W.push #[.int .u64 t0, .int .u64 t1] 23
              go_upto_region 29 with fail
              go_cut [234] (fun s wx => s = .bool false ∧ B3 w gx gy gw x0 x1 y0 y1 z wx)
              case first => as_aux_lemma =>
                obtain ⟨ht0, ht1, ⟨rfl, m, hjm, hm, hv⟩ | ⟨rfl, hn⟩ | ⟨rfl, hn⟩⟩ := ten_3 HS
                · have hgeq : 0 ≤ j - 3 := by omega
                  have hleq : j - 3 ≤ 38 := by omega
                  have HJ := Lib.hid hjm
                  have HV := Lib.hid hv
                  clear hjm hv HS
                  go_wp2_with fail
                  refine (nat2_c t0 t1 _ ht0 ht1).mono ?_
                  rintro e r21 ⟨A3, n3, k3, d3, ⟨D3, N3, E3⟩, rfl, hb⟩
                  replace W := W.below hb
                  clear hb
                  rw [HV.out] at E3
                  have E3h := Lib.hid E3
                  clear E3
                  go_wp2_with fail
                  refine (tenNat_k (j - 3) m HJ.out (by omega) _).mono ?_
                  rintro e r22 ⟨A4, n4, k4, d4, ⟨D4, N4, E4⟩, rfl, hb⟩
                  replace W := W.below hb
                  replace D3 := D3.below hb
                  clear hb
                  have E4h := Lib.hid E4
                  clear E4
                  go_wp2_with fail
                  refine (cmpNat_k A3 A4 n3 n4 k3 k4 d3 d4 _ _ 0 _ D3 D4 N3 N4 E3h.out E4h.out (cmpI_eq rfl)).mono ?_
                  rintro e r23 ⟨_, rfl, rfl, hb⟩
                  replace W := W.below hb
                  clear hb D3 D4
                  go_wp2
                  go_meet
                  case rel => exact ⟨rfl, HB.sub W (by simp)⟩
                · have g1 : decide (0 ≤ j - 3) = false := by simp; omega
                  clear HS
                  go_wp2
                  go_meet
                  case rel => exact ⟨rfl, HB.sub W (by simp)⟩
                · have g0 : 0 ≤ j - 3 := by omega
                  have g1 : decide (j - 3 ≤ 38) = false := by simp; omega
                  clear HS
                  go_wp2
                  go_meet
                  case rel => exact ⟨rfl, HB.sub W (by simp)⟩
              case rest => as_aux_lemma =>
                clear W HS
                obtain ⟨rfl, W⟩ := hcut
                have Wh := Lib.hid W
                clear W
                obtain ⟨f0, f1, f2, f3, HL⟩ := left_ex x0 x1 y0 z k
                obtain ⟨h0, h1, h2, h3, HR⟩ := right_ex k hx0 hx1 hy0 hz
                obtain ⟨nb, HN⟩ := bits_ex4 x0 x1 y0 z
                have q1 := eqW4_yes (a := f0) (b := f1) (c := f2) (d := f3) (a' := f0) (b' := f1) (c' := f2) (d' := f3) ⟨rfl, rfl, rfl, rfl⟩
                have q2 := eqW4_yes (a := h0) (b := h1) (c := h2) (d := h3) (a' := h0) (b' := h1) (c' := h2) (d' := h3) ⟨rfl, rfl, rfl, rfl⟩
                have q4 := eqW4_yes (a := x0) (b := x1) (c := 0) (d := 0) (a' := x0) (b' := x1) (c' := 0) (d' := 0) ⟨rfl, rfl, rfl, rfl⟩
                have q5 := eqW2_yes (a := a0) (b := 0) (c := a0) (d := 0) ⟨rfl, rfl⟩
                go_upto_region 31 with fail
                refine wp_region_det (S := fun w' => B3 w gx gy gw x0 x1 y0 y1 z w' ∧ (w'.cell? ⟨gw, 0, none⟩ = some (.int .u64 x0) ∧ w'.cell? ⟨gw, 1, none⟩ = some (.int .u64 x1) ∧ w'.cell? ⟨gw, 2, none⟩ = some (.int .u64 y0) ∧ w'.cell? ⟨gw, 3, none⟩ = some (.int .u64 z)) ∧ (w'.cell? ⟨gx, 0, none⟩ = some (.int .u64 x0) ∧ w'.cell? ⟨gx, 1, none⟩ = some (.int .u64 x1))) (by kernel_rfl) (b3Mk (HB.drew Wh.out)) ?_
                refine det_take (v := ?_) (i := 0) (fuel := 43) (by simp; rfl) (by kernel_rfl) (by kernel_rfl) (by kernel_rfl) (Or.inl ⟨by rfl, fun w' hS => Or.inr ⟨15, #[], w', ?_, ?_⟩⟩) ?_
                rotate_left
                · go_simp
                  all_goals with_reducible rfl
                · exact (known_c _).mono fun e w2 ⟨_, hv, he, hb⟩ => ⟨by rw [he, hv], b3Mk (HB.below hS.1 hb)⟩
                simp only [Act.put, List.setIfInBounds_toArray, List.set_cons_zero, List.set_cons_succ]
                refine det_take (v := ?_) (i := 1) (fuel := 42) (by simp; rfl) (by kernel_rfl) (by kernel_rfl) (by kernel_rfl) (Or.inl ⟨by rfl, fun w' hS => Or.inl ⟨w', ?_, hS⟩⟩) ?_
                rotate_left
                · obtain ⟨-, ⟨c0, c1, c2, c3⟩, ⟨e0, e1⟩⟩ := hS
                  go_simp
                  all_goals with_reducible rfl
                simp only [Act.put, List.setIfInBounds_toArray, List.set_cons_zero, List.set_cons_succ]
                refine det_take (v := ?_) (i := 2) (fuel := 41) (by simp; rfl) (by kernel_rfl) (by kernel_rfl) (by kernel_rfl) (Or.inl ⟨by rfl, fun w' hS => Or.inl ⟨w', ?_, hS⟩⟩) ?_
                rotate_left
                · obtain ⟨-, ⟨c0, c1, c2, c3⟩, ⟨e0, e1⟩⟩ := hS
                  go_simp
                  all_goals with_reducible rfl
                simp only [Act.put, List.setIfInBounds_toArray, List.set_cons_zero, List.set_cons_succ]
                refine det_take (v := ?_) (i := 3) (fuel := 40) (by simp; rfl) (by kernel_rfl) (by kernel_rfl) (by kernel_rfl) (Or.inl ⟨by rfl, fun w' hS => Or.inl ⟨w', ?_, hS⟩⟩) ?_
                rotate_left
                · obtain ⟨-, ⟨c0, c1, c2, c3⟩, ⟨e0, e1⟩⟩ := hS
                  go_simp
                  all_goals with_reducible rfl
                simp only [Act.put, List.setIfInBounds_toArray, List.set_cons_zero, List.set_cons_succ]
                refine det_take (v := ?_) (i := 4) (fuel := 39) (by simp; rfl) (by kernel_rfl) (by kernel_rfl) (by kernel_rfl) (Or.inl ⟨by rfl, fun w' hS => Or.inr ⟨16, #[.agg #[.int .u64 x0, .int .u64 x1, .int .u64 y0, .int .u64 z], .int .i64 k], w', ?_, ?_⟩⟩) ?_
                rotate_left
                · go_simp
                  all_goals with_reducible rfl
                · exact (left_u x0 x1 y0 z k f0 f1 f2 f3 _ hx0 hx1 hy0 hz HL).mono fun e w2 ⟨_, hv, he, hb⟩ => ⟨by rw [he, hv], b3Mk (HB.below hS.1 hb)⟩
                simp only [Act.put, List.setIfInBounds_toArray, List.set_cons_zero, List.set_cons_succ]
                refine det_take (v := ?_) (i := 5) (fuel := 38) (by simp; rfl) (by kernel_rfl) (by kernel_rfl) (by kernel_rfl) (Or.inl ⟨by rfl, fun w' hS => Or.inl ⟨w', ?_, hS⟩⟩) ?_
                rotate_left
                · obtain ⟨-, ⟨c0, c1, c2, c3⟩, ⟨e0, e1⟩⟩ := hS
                  go_simp
                  all_goals with_reducible rfl
                simp only [Act.put, List.setIfInBounds_toArray, List.set_cons_zero, List.set_cons_succ]
                refine det_take (v := ?_) (i := 6) (fuel := 37) (by simp; rfl) (by kernel_rfl) (by kernel_rfl) (by kernel_rfl) (Or.inl ⟨by rfl, fun w' hS => Or.inl ⟨w', ?_, hS⟩⟩) ?_
                rotate_left
                · obtain ⟨-, ⟨c0, c1, c2, c3⟩, ⟨e0, e1⟩⟩ := hS
                  go_simp
                  all_goals with_reducible rfl
                simp only [Act.put, List.setIfInBounds_toArray, List.set_cons_zero, List.set_cons_succ]
                refine det_take (v := ?_) (i := 7) (fuel := 36) (by simp; rfl) (by kernel_rfl) (by kernel_rfl) (by kernel_rfl) (Or.inl ⟨by rfl, fun w' hS => Or.inr ⟨33, #[.agg #[.int .u64 x0, .int .u64 x1, .int .u64 y0, .int .u64 z], .int .i64 k], w', ?_, ?_⟩⟩) ?_
                rotate_left
                · go_simp
                  all_goals with_reducible rfl
                · exact (refLeft_u x0 x1 y0 z k f0 f1 f2 f3 _ hx0 hx1 hy0 hz HL).mono fun e w2 ⟨_, hv, he, hb⟩ => ⟨by rw [he, hv], b3Mk (HB.below hS.1 hb)⟩
                simp only [Act.put, List.setIfInBounds_toArray, List.set_cons_zero, List.set_cons_succ]
                refine det_take (v := ?_) (i := 8) (fuel := 35) (by simp; rfl) (by kernel_rfl) (by kernel_rfl) (by kernel_rfl) (Or.inl ⟨by rfl, fun w' hS => Or.inl ⟨w', ?_, hS⟩⟩) ?_
                rotate_left
                · obtain ⟨-, ⟨c0, c1, c2, c3⟩, ⟨e0, e1⟩⟩ := hS
                  go_simp
                  all_goals with_reducible rfl
                simp only [Act.put, List.setIfInBounds_toArray, List.set_cons_zero, List.set_cons_succ]
                refine det_take (v := ?_) (i := 9) (fuel := 34) (by simp; rfl) (by kernel_rfl) (by kernel_rfl) (by kernel_rfl) (Or.inl ⟨by rfl, fun w' hS => Or.inl ⟨w', ?_, hS⟩⟩) ?_
                rotate_left
                · obtain ⟨-, ⟨c0, c1, c2, c3⟩, ⟨e0, e1⟩⟩ := hS
                  go_simp
                  all_goals with_reducible rfl
                simp only [Act.put, List.setIfInBounds_toArray, List.set_cons_zero, List.set_cons_succ]
                refine det_take (v := ?_) (i := 10) (fuel := 33) (by simp; rfl) (by kernel_rfl) (by kernel_rfl) (by kernel_rfl) (Or.inl ⟨by rfl, fun w' hS => Or.inl ⟨w', ?_, hS⟩⟩) ?_
                rotate_left
                · obtain ⟨-, ⟨c0, c1, c2, c3⟩, ⟨e0, e1⟩⟩ := hS
                  go_simp
                  all_goals with_reducible rfl
                simp only [Act.put, List.setIfInBounds_toArray, List.set_cons_zero, List.set_cons_succ]
                refine det_take (v := ?_) (i := 11) (fuel := 32) (by simp; rfl) (by kernel_rfl) (by kernel_rfl) (by kernel_rfl) (Or.inl ⟨by rfl, fun w' hS => Or.inl ⟨w', ?_, hS⟩⟩) ?_
                rotate_left
                · obtain ⟨-, ⟨c0, c1, c2, c3⟩, ⟨e0, e1⟩⟩ := hS
                  go_simp
                  all_goals with_reducible rfl
                simp only [Act.put, List.setIfInBounds_toArray, List.set_cons_zero, List.set_cons_succ]
                refine det_take (v := ?_) (i := 12) (fuel := 31) (by simp; rfl) (by kernel_rfl) (by kernel_rfl) (by kernel_rfl) (Or.inl ⟨by rfl, fun w' hS => Or.inl ⟨w', ?_, hS⟩⟩) ?_
                rotate_left
                · obtain ⟨-, ⟨c0, c1, c2, c3⟩, ⟨e0, e1⟩⟩ := hS
                  go_simp
                  all_goals with_reducible rfl
                simp only [Act.put, List.setIfInBounds_toArray, List.set_cons_zero, List.set_cons_succ]
                refine det_take (v := ?_) (i := 13) (fuel := 30) (by simp; rfl) (by kernel_rfl) (by kernel_rfl) (by kernel_rfl) (Or.inl ⟨by rfl, fun w' hS => Or.inr ⟨17, #[.agg #[.int .u64 x0, .int .u64 x1, .int .u64 y0, .int .u64 z], .int .i64 k], w', ?_, ?_⟩⟩) ?_
                rotate_left
                · go_simp
                  all_goals with_reducible rfl
                · exact (right_u4 x0 x1 y0 z k h0 h1 h2 h3 _ hx0 hx1 hy0 hz HR).mono fun e w2 ⟨_, hv, he, hb⟩ => ⟨by rw [he, hv], b3Mk (HB.below hS.1 hb)⟩
                simp only [Act.put, List.setIfInBounds_toArray, List.set_cons_zero, List.set_cons_succ]
                refine det_take (v := ?_) (i := 14) (fuel := 29) (by simp; rfl) (by kernel_rfl) (by kernel_rfl) (by kernel_rfl) (Or.inl ⟨by rfl, fun w' hS => Or.inl ⟨w', ?_, hS⟩⟩) ?_
                rotate_left
                · obtain ⟨-, ⟨c0, c1, c2, c3⟩, ⟨e0, e1⟩⟩ := hS
                  go_simp
                  all_goals with_reducible rfl
                simp only [Act.put, List.setIfInBounds_toArray, List.set_cons_zero, List.set_cons_succ]
                refine det_take (v := ?_) (i := 15) (fuel := 28) (by simp; rfl) (by kernel_rfl) (by kernel_rfl) (by kernel_rfl) (Or.inl ⟨by rfl, fun w' hS => Or.inl ⟨w', ?_, hS⟩⟩) ?_
                rotate_left
                · obtain ⟨-, ⟨c0, c1, c2, c3⟩, ⟨e0, e1⟩⟩ := hS
                  go_simp
                  all_goals with_reducible rfl
                simp only [Act.put, List.setIfInBounds_toArray, List.set_cons_zero, List.set_cons_succ]
                refine det_take (v := ?_) (i := 16) (fuel := 27) (by simp; rfl) (by kernel_rfl) (by kernel_rfl) (by kernel_rfl) (Or.inl ⟨by rfl, fun w' hS => Or.inr ⟨34, #[.agg #[.int .u64 x0, .int .u64 x1, .int .u64 y0, .int .u64 z], .int .i64 k], w', ?_, ?_⟩⟩) ?_
                rotate_left
                · go_simp
                  all_goals with_reducible rfl
                · exact (refRight_u x0 x1 y0 z k h0 h1 h2 h3 _ hx0 hx1 hy0 hz HR).mono fun e w2 ⟨_, hv, he, hb⟩ => ⟨by rw [he, hv], b3Mk (HB.below hS.1 hb)⟩
                simp only [Act.put, List.setIfInBounds_toArray, List.set_cons_zero, List.set_cons_succ]
                refine det_take (v := ?_) (i := 17) (fuel := 26) (by simp; rfl) (by kernel_rfl) (by kernel_rfl) (by kernel_rfl) (Or.inl ⟨by rfl, fun w' hS => Or.inl ⟨w', ?_, hS⟩⟩) ?_
                rotate_left
                · obtain ⟨-, ⟨c0, c1, c2, c3⟩, ⟨e0, e1⟩⟩ := hS
                  go_simp
                  all_goals with_reducible rfl
                simp only [Act.put, List.setIfInBounds_toArray, List.set_cons_zero, List.set_cons_succ]
                refine det_take (v := ?_) (i := 18) (fuel := 25) (by simp; rfl) (by kernel_rfl) (by kernel_rfl) (by kernel_rfl) (Or.inl ⟨by rfl, fun w' hS => Or.inl ⟨w', ?_, hS⟩⟩) ?_
                rotate_left
                · obtain ⟨-, ⟨c0, c1, c2, c3⟩, ⟨e0, e1⟩⟩ := hS
                  go_simp
                  all_goals with_reducible rfl
                simp only [Act.put, List.setIfInBounds_toArray, List.set_cons_zero, List.set_cons_succ]
                refine det_take (v := ?_) (i := 19) (fuel := 24) (by simp; rfl) (by kernel_rfl) (by kernel_rfl) (by kernel_rfl) (Or.inl ⟨by rfl, fun w' hS => Or.inl ⟨w', ?_, hS⟩⟩) ?_
                rotate_left
                · obtain ⟨-, ⟨c0, c1, c2, c3⟩, ⟨e0, e1⟩⟩ := hS
                  go_simp
                  all_goals with_reducible rfl
                simp only [Act.put, List.setIfInBounds_toArray, List.set_cons_zero, List.set_cons_succ]
                refine det_take (v := ?_) (i := 20) (fuel := 23) (by simp; rfl) (by kernel_rfl) (by kernel_rfl) (by kernel_rfl) (Or.inl ⟨by rfl, fun w' hS => Or.inl ⟨w', ?_, hS⟩⟩) ?_
                rotate_left
                · obtain ⟨-, ⟨c0, c1, c2, c3⟩, ⟨e0, e1⟩⟩ := hS
                  go_simp
                  all_goals with_reducible rfl
                simp only [Act.put, List.setIfInBounds_toArray, List.set_cons_zero, List.set_cons_succ]
                refine det_take (v := ?_) (i := 21) (fuel := 22) (by simp; rfl) (by kernel_rfl) (by kernel_rfl) (by kernel_rfl) (Or.inl ⟨by rfl, fun w' hS => Or.inr ⟨18, #[.agg #[.int .u64 x0, .int .u64 x1, .int .u64 y0, .int .u64 z]], w', ?_, ?_⟩⟩) ?_
                rotate_left
                · go_simp
                  all_goals with_reducible rfl
                · exact (bits_u x0 x1 y0 z nb _ hx0 hx1 hy0 hz HN).mono fun e w2 ⟨_, hv, he, hb⟩ => ⟨by rw [he, hv], b3Mk (HB.below hS.1 hb)⟩
                simp only [Act.put, List.setIfInBounds_toArray, List.set_cons_zero, List.set_cons_succ]
                refine det_take (v := ?_) (i := 22) (fuel := 21) (by simp; rfl) (by kernel_rfl) (by kernel_rfl) (by kernel_rfl) (Or.inl ⟨by rfl, fun w' hS => Or.inl ⟨w', ?_, hS⟩⟩) ?_
                rotate_left
                · obtain ⟨-, ⟨c0, c1, c2, c3⟩, ⟨e0, e1⟩⟩ := hS
                  go_simp
                  all_goals with_reducible rfl
                simp only [Act.put, List.setIfInBounds_toArray, List.set_cons_zero, List.set_cons_succ]
                refine det_take (v := ?_) (i := 23) (fuel := 20) (by simp; rfl) (by kernel_rfl) (by kernel_rfl) (by kernel_rfl) (Or.inl ⟨by rfl, fun w' hS => Or.inr ⟨35, #[.agg #[.int .u64 x0, .int .u64 x1, .int .u64 y0, .int .u64 z]], w', ?_, ?_⟩⟩) ?_
                rotate_left
                · go_simp
                  all_goals with_reducible rfl
                · exact (refBits_u x0 x1 y0 z nb _ hx0 hx1 hy0 hz HN).mono fun e w2 ⟨_, hv, he, hb⟩ => ⟨by rw [he, hv], b3Mk (HB.below hS.1 hb)⟩
                simp only [Act.put, List.setIfInBounds_toArray, List.set_cons_zero, List.set_cons_succ]
                refine det_take (v := ?_) (i := 24) (fuel := 19) (by simp; rfl) (by kernel_rfl) (by kernel_rfl) (by kernel_rfl) (Or.inl ⟨by rfl, fun w' hS => Or.inl ⟨w', ?_, hS⟩⟩) ?_
                rotate_left
                · obtain ⟨-, ⟨c0, c1, c2, c3⟩, ⟨e0, e1⟩⟩ := hS
                  go_simp
                  all_goals with_reducible rfl
                simp only [Act.put, List.setIfInBounds_toArray, List.set_cons_zero, List.set_cons_succ]
                refine det_take (v := ?_) (i := 25) (fuel := 18) (by simp; rfl) (by kernel_rfl) (by kernel_rfl) (by kernel_rfl) (Or.inl ⟨by rfl, fun w' hS => Or.inl ⟨w', ?_, hS⟩⟩) ?_
                rotate_left
                · obtain ⟨-, ⟨c0, c1, c2, c3⟩, ⟨e0, e1⟩⟩ := hS
                  go_simp
                  all_goals with_reducible rfl
                simp only [Act.put, List.setIfInBounds_toArray, List.set_cons_zero, List.set_cons_succ]
                refine det_take (v := ?_) (i := 26) (fuel := 17) (by simp; rfl) (by kernel_rfl) (by kernel_rfl) (by kernel_rfl) (Or.inl ⟨by rfl, fun w' hS => Or.inl ⟨w', ?_, hS⟩⟩) ?_
                rotate_left
                · obtain ⟨-, ⟨c0, c1, c2, c3⟩, ⟨e0, e1⟩⟩ := hS
                  go_simp
                  all_goals with_reducible rfl
                simp only [Act.put, List.setIfInBounds_toArray, List.set_cons_zero, List.set_cons_succ]
                refine det_take (v := ?_) (i := 27) (fuel := 16) (by simp; rfl) (by kernel_rfl) (by kernel_rfl) (by kernel_rfl) (Or.inl ⟨by rfl, fun w' hS => Or.inl ⟨w', ?_, hS⟩⟩) ?_
                rotate_left
                · obtain ⟨-, ⟨c0, c1, c2, c3⟩, ⟨e0, e1⟩⟩ := hS
                  go_simp
                  all_goals with_reducible rfl
                simp only [Act.put, List.setIfInBounds_toArray, List.set_cons_zero, List.set_cons_succ]
                refine det_take (v := ?_) (i := 28) (fuel := 15) (by simp; rfl) (by kernel_rfl) (by kernel_rfl) (by kernel_rfl) (Or.inl ⟨by rfl, fun w' hS => Or.inr ⟨20, #[.agg #[.int .u64 x0, .int .u64 x1]], w', ?_, ?_⟩⟩) ?_
                rotate_left
                · go_simp
                  all_goals with_reducible rfl
                · exact (wide_c x0 x1 _).mono fun e w2 ⟨_, hv, he, hb⟩ => ⟨by rw [he, hv], b3Mk (HB.below hS.1 hb)⟩
                simp only [Act.put, List.setIfInBounds_toArray, List.set_cons_zero, List.set_cons_succ]
                refine det_take (v := ?_) (i := 29) (fuel := 14) (by simp; rfl) (by kernel_rfl) (by kernel_rfl) (by kernel_rfl) (Or.inl ⟨by rfl, fun w' hS => Or.inl ⟨w', ?_, hS⟩⟩) ?_
                rotate_left
                · obtain ⟨-, ⟨c0, c1, c2, c3⟩, ⟨e0, e1⟩⟩ := hS
                  go_simp
                  all_goals with_reducible rfl
                simp only [Act.put, List.setIfInBounds_toArray, List.set_cons_zero, List.set_cons_succ]
                refine det_take (v := ?_) (i := 30) (fuel := 13) (by simp; rfl) (by kernel_rfl) (by kernel_rfl) (by kernel_rfl) (Or.inl ⟨by rfl, fun w' hS => Or.inl ⟨w', ?_, hS⟩⟩) ?_
                rotate_left
                · obtain ⟨-, ⟨c0, c1, c2, c3⟩, ⟨e0, e1⟩⟩ := hS
                  go_simp
                  all_goals with_reducible rfl
                simp only [Act.put, List.setIfInBounds_toArray, List.set_cons_zero, List.set_cons_succ]
                refine det_take (v := ?_) (i := 31) (fuel := 12) (by simp; rfl) (by kernel_rfl) (by kernel_rfl) (by kernel_rfl) (Or.inl ⟨by rfl, fun w' hS => Or.inl ⟨w', ?_, hS⟩⟩) ?_
                rotate_left
                · obtain ⟨-, ⟨c0, c1, c2, c3⟩, ⟨e0, e1⟩⟩ := hS
                  go_simp
                  all_goals with_reducible rfl
                simp only [Act.put, List.setIfInBounds_toArray, List.set_cons_zero, List.set_cons_succ]
                refine det_take (v := ?_) (i := 32) (fuel := 11) (by simp; rfl) (by kernel_rfl) (by kernel_rfl) (by kernel_rfl) (Or.inl ⟨by rfl, fun w' hS => Or.inl ⟨w', ?_, hS⟩⟩) ?_
                rotate_left
                · obtain ⟨-, ⟨c0, c1, c2, c3⟩, ⟨e0, e1⟩⟩ := hS
                  go_simp
                  all_goals with_reducible rfl
                simp only [Act.put, List.setIfInBounds_toArray, List.set_cons_zero, List.set_cons_succ]
                refine det_take (v := ?_) (i := 33) (fuel := 10) (by simp; rfl) (by kernel_rfl) (by kernel_rfl) (by kernel_rfl) (Or.inl ⟨by rfl, fun w' hS => Or.inl ⟨w', ?_, hS⟩⟩) ?_
                rotate_left
                · obtain ⟨-, ⟨c0, c1, c2, c3⟩, ⟨e0, e1⟩⟩ := hS
                  go_simp
                  all_goals with_reducible rfl
                simp only [Act.put, List.setIfInBounds_toArray, List.set_cons_zero, List.set_cons_succ]
                refine det_take (v := ?_) (i := 34) (fuel := 9) (by simp; rfl) (by kernel_rfl) (by kernel_rfl) (by kernel_rfl) (Or.inl ⟨by rfl, fun w' hS => Or.inl ⟨w', ?_, hS⟩⟩) ?_
                rotate_left
                · obtain ⟨-, ⟨c0, c1, c2, c3⟩, ⟨e0, e1⟩⟩ := hS
                  go_simp
                  all_goals with_reducible rfl
                simp only [Act.put, List.setIfInBounds_toArray, List.set_cons_zero, List.set_cons_succ]
                refine det_take (v := ?_) (i := 35) (fuel := 8) (by simp; rfl) (by kernel_rfl) (by kernel_rfl) (by kernel_rfl) (Or.inl ⟨by rfl, fun w' hS => Or.inl ⟨w', ?_, hS⟩⟩) ?_
                rotate_left
                · obtain ⟨-, ⟨c0, c1, c2, c3⟩, ⟨e0, e1⟩⟩ := hS
                  go_simp
                  all_goals with_reducible rfl
                simp only [Act.put, List.setIfInBounds_toArray, List.set_cons_zero, List.set_cons_succ]
                refine det_take (v := ?_) (i := 36) (fuel := 7) (by simp; rfl) (by kernel_rfl) (by kernel_rfl) (by kernel_rfl) (Or.inl ⟨by rfl, fun w' hS => Or.inl ⟨w', ?_, hS⟩⟩) ?_
                rotate_left
                · obtain ⟨-, ⟨c0, c1, c2, c3⟩, ⟨e0, e1⟩⟩ := hS
                  go_simp
                  all_goals with_reducible rfl
                simp only [Act.put, List.setIfInBounds_toArray, List.set_cons_zero, List.set_cons_succ]
                refine det_take (v := ?_) (i := 37) (fuel := 6) (by simp; rfl) (by kernel_rfl) (by kernel_rfl) (by kernel_rfl) (Or.inl ⟨by rfl, fun w' hS => Or.inl ⟨w', ?_, hS⟩⟩) ?_
                rotate_left
                · obtain ⟨-, ⟨c0, c1, c2, c3⟩, ⟨e0, e1⟩⟩ := hS
                  go_simp
                  all_goals with_reducible rfl
                simp only [Act.put, List.setIfInBounds_toArray, List.set_cons_zero, List.set_cons_succ]
                refine det_take (v := ?_) (i := 38) (fuel := 5) (by simp; rfl) (by kernel_rfl) (by kernel_rfl) (by kernel_rfl) (Or.inl ⟨by rfl, fun w' hS => Or.inr ⟨10, #[.int .u64 a0], w', ?_, ?_⟩⟩) ?_
                rotate_left
                · go_simp
                  all_goals with_reducible rfl
                · exact (of_c a0 _).mono fun e w2 ⟨_, hv, he, hb⟩ => ⟨by rw [he, hv], b3Mk (HB.below hS.1 hb)⟩
                simp only [Act.put, List.setIfInBounds_toArray, List.set_cons_zero, List.set_cons_succ]
                refine det_take (v := ?_) (i := 39) (fuel := 4) (by simp; rfl) (by kernel_rfl) (by kernel_rfl) (by kernel_rfl) (Or.inl ⟨by rfl, fun w' hS => Or.inl ⟨w', ?_, hS⟩⟩) ?_
                rotate_left
                · obtain ⟨-, ⟨c0, c1, c2, c3⟩, ⟨e0, e1⟩⟩ := hS
                  go_simp
                  all_goals with_reducible rfl
                simp only [Act.put, List.setIfInBounds_toArray, List.set_cons_zero, List.set_cons_succ]
                refine det_take (v := ?_) (i := 40) (fuel := 3) (by simp; rfl) (by kernel_rfl) (by kernel_rfl) (by kernel_rfl) (Or.inl ⟨by rfl, fun w' hS => Or.inl ⟨w', ?_, hS⟩⟩) ?_
                rotate_left
                · obtain ⟨-, ⟨c0, c1, c2, c3⟩, ⟨e0, e1⟩⟩ := hS
                  go_simp
                  all_goals with_reducible rfl
                simp only [Act.put, List.setIfInBounds_toArray, List.set_cons_zero, List.set_cons_succ]
                refine det_take (v := ?_) (i := 41) (fuel := 2) (by simp; rfl) (by kernel_rfl) (by kernel_rfl) (by kernel_rfl) (Or.inl ⟨by rfl, fun w' hS => Or.inl ⟨w', ?_, hS⟩⟩) ?_
                rotate_left
                · obtain ⟨-, ⟨c0, c1, c2, c3⟩, ⟨e0, e1⟩⟩ := hS
                  go_simp
                  all_goals with_reducible rfl
                simp only [Act.put, List.setIfInBounds_toArray, List.set_cons_zero, List.set_cons_succ]
                refine det_take (v := ?_) (i := 42) (fuel := 1) (by simp; rfl) (by kernel_rfl) (by kernel_rfl) (by kernel_rfl) (Or.inl ⟨by rfl, fun w' hS => Or.inl ⟨w', ?_, hS⟩⟩) ?_
                rotate_left
                · obtain ⟨-, ⟨c0, c1, c2, c3⟩, ⟨e0, e1⟩⟩ := hS
                  go_simp
                  all_goals with_reducible rfl
                simp only [Act.put, List.setIfInBounds_toArray, List.set_cons_zero, List.set_cons_succ]
                refine det_take (v := ?_) (i := 43) (fuel := 0) (by simp; rfl) (by kernel_rfl) (by kernel_rfl) (by kernel_rfl) (Or.inl ⟨by rfl, fun w' hS => Or.inl ⟨w', ?_, hS⟩⟩) ?_
                rotate_left
                · obtain ⟨-, ⟨c0, c1, c2, c3⟩, ⟨e0, e1⟩⟩ := hS
                  go_simp
                  all_goals with_reducible rfl
                simp only [Act.put, List.setIfInBounds_toArray, List.set_cons_zero, List.set_cons_succ]
                refine det_done (by kernel_rfl) (fun w' hS => ?_) _
                go_wp2
                go_ret
                exact ⟨rfl, hS.1.1⟩

set_option maxRecDepth 100000 in
theorem lifted (os : Os) (started : os.Started) (H : Type) (enc : TypeId × Value → H) :
    ReturnsInHanded {} Try.checked os 4 .any (Rows.limbTellsSpec.pre6 enc Try.prog Try.f4 Rows.limbTellsRow.domain false) (Rows.limbTellsSpec.post enc Try.prog Try.f4 false true false false) := by
  refine returnsInHanded_of_change (C := Try.checked) own started (by kernel_rfl) Try.func4
    (ChangeSpec.witness6 (enc := enc) (C := Try.checked) false ⟨#[], #[.int .u64 0, .int .u64 0, .int .u64 0, .int .u64 0, .int .i64 0, .int .i64 0, .int .i64 0, .bool false], []⟩ 8 (by kernel_rfl) (by kernel_rfl) (by kernel_rfl) (by kernel_rfl)) ?_
  intro W base args ds gs before hval0 hW hcnd _
  have hval : ∀ (j : Nat) t v, Try.f4.params[j]? = some t → args[j]? = some v → Value.okWide Try.prog W .any base t v := hval0
  have hW' := hW
  obtain ⟨p, q, hA0, hV, rfl, hfz, hnd⟩ := hW
  have hA : DataW.TrodAll enc Try.prog W 0 (fun _ => true) true Try.f4.params.toList args.toList ds p := hA0
  rw [Try.params4] at hA hval
  obtain ⟨v0, vs0, d0, ds0, p0, q0, hargs, rfl, rfl, h0, r0⟩ := trodAll_cons hA
  obtain ⟨v1, vs1, d1, ds1, p1, q1, rfl, rfl, rfl, h1, r1⟩ := trodAll_cons r0
  obtain ⟨v2, vs2, d2, ds2, p2, q2, rfl, rfl, rfl, h2, r2⟩ := trodAll_cons r1
  obtain ⟨v3, vs3, d3, ds3, p3, q3, rfl, rfl, rfl, h3, r3⟩ := trodAll_cons r2
  obtain ⟨v4, vs4, d4, ds4, p4, q4, rfl, rfl, rfl, h4, r4⟩ := trodAll_cons r3
  obtain ⟨v5, vs5, d5, ds5, p5, q5, rfl, rfl, rfl, h5, r5⟩ := trodAll_cons r4
  obtain ⟨v6, vs6, d6, ds6, p6, q6, rfl, rfl, rfl, h6, r6⟩ := trodAll_cons r5
  obtain ⟨v7, vs7, d7, ds7, p7, q7, rfl, rfl, rfl, h7, r7⟩ := trodAll_cons r6
  obtain ⟨rfl, rfl, rfl⟩ := trodAll_nil r7
  obtain rfl : args = #[v0, v1, v2, v3, v4, v5, v6, v7] := by cases args; simp_all
  obtain ⟨rfl, rfl⟩ := trodVars_none hV
  obtain ⟨a0, rfl, rfl, rfl, w0⟩ := open_int Try.underlying22 (hval 0 22 v0 rfl rfl) h0
  obtain ⟨a1, rfl, rfl, rfl, w1⟩ := open_int Try.underlying22 (hval 1 22 v1 rfl rfl) h1
  obtain ⟨a2, rfl, rfl, rfl, w2⟩ := open_int Try.underlying22 (hval 2 22 v2 rfl rfl) h2
  obtain ⟨a3, rfl, rfl, rfl, w3⟩ := open_int Try.underlying22 (hval 3 22 v3 rfl rfl) h3
  obtain ⟨a4, rfl, rfl, rfl, w4⟩ := open_int Try.underlying3 (hval 4 3 v4 rfl rfl) h4
  obtain ⟨a5, rfl, rfl, rfl, w5⟩ := open_int Try.underlying3 (hval 5 3 v5 rfl rfl) h5
  obtain ⟨a6, rfl, rfl, rfl, w6⟩ := open_int Try.underlying3 (hval 6 3 v6 rfl rfl) h6
  obtain ⟨a7, rfl, rfl, rfl⟩ := open_bool Try.underlying4 (hval 7 4 v7 rfl rfl) h7
  clear hA0 hval0
  simp only [List.append_nil] at hW'
  refine (walk a0 a1 a2 a3 a4 a5 a6 a7 w0 w1 w2 w3 w4 w5 w6 W).mono fun e W' ⟨he, hg⟩ => ?_
  subst he
  exact ⟨_, rfl, post_bel (pa := []) (pv := []) hW' (fun _ _ _ => (trodAll_cons_mk (shut_bool Try.underlying4 _) trodAll_mk0)) (fun sp _ => (trodAll_cons_mk (shut_int Try.underlying22 w0) (trodAll_cons_mk (shut_int Try.underlying22 w1) (trodAll_cons_mk (shut_int Try.underlying22 w2) (trodAll_cons_mk (shut_int Try.underlying22 w3) (trodAll_cons_mk (shut_int Try.underlying3 w4) (trodAll_cons_mk (shut_int Try.underlying3 w5) (trodAll_cons_mk (shut_int Try.underlying3 w6) (trodAll_cons_mk (shut_bool Try.underlying4 _) trodAll_mk0))))))))) (fun _ _ => rfl) rfl
    hg (ok_one (by kernel_rfl) rfl (okWide_bool_mk Try.underlying4 _))⟩

theorem over : Rows.limbTellsRow.holds Try.pinned (OpenSpec.ofChange Rows.limbTellsSpec) :=
  OpenClaim.holds_of_wide 4 Try.f4 rfl rfl rfl rfl rfl rfl rfl ⟨rfl, rfl, rfl, rfl, rfl⟩ rfl rfl rfl rfl rfl (by kernel_rfl) Try.func4 (by kernel_rfl)
    (of_decide_eq_true (by kernel_rfl)) (by unfold Func.isWrapper; first | (rw [if_pos (by decide +kernel)]; kernel_rfl) | (rw [if_neg (by decide +kernel)]; exact ⟨rfl, rfl⟩))
    (fun os started H enc _ => lifted os started H enc)

/-- The given statement. -/
theorem proved : Rows.LimbTellsSaid :=
  over
#print axioms proved
end Go.Proofs.Ytdpkmhgmglljjaa.limbTells

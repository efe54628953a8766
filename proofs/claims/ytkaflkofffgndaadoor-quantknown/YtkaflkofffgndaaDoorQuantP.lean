/- Package quant: Unit at any decimals. -/
import Derived.Test.YtkaflkofffgndaaDoorQuantO
import Derived.Test.YtkaflkofffgndaaDoorCmpA
namespace Go.Proofs.YtkaflkofffgndaaDoor
open Go.RowKit
theorem zOf_mul {x n : Bool} {R A : Nat} (h : zOf x R = zOf n R) : zOf x (R * A) = zOf n (R * A) := by
  cases x <;> cases n
  · rfl
  · have e : R = 0 := by unfold zOf at h; simp at h; omega
    rw [e, Nat.zero_mul]
    rfl
  · have e : R = 0 := by unfold zOf at h; simp at h; omega
    rw [e, Nat.zero_mul]
    rfl
  · rfl
theorem signp_of {n : Bool} {a b s : Int} (h : 0 < signV n a b s) : RightD n a b s ∧ n = false ∧ v2 a b ≠ 0 := by
  unfold signV at h
  by_cases hr : RightD n a b s
  · rw [if_pos hr] at h
    have h2 := Int.sign_pos_iff.1 h
    unfold zOf at h2
    cases n
    · refine ⟨hr, rfl, ?_⟩
      simp at h2
      omega
    · simp at h2
      omega
  · rw [if_neg hr] at h
    omega
theorem sign_nonpos {n : Bool} {a b s : Int} (N : Nat) (n' : Bool) (a' b' s' m : Int) (h : ¬ 0 < signV n a b s) (_hN : N = 0) : unitV n' a' b' s' n a b s m = errV 1 := by
  unfold unitV
  rw [if_neg (fun g => h g.2.2.2)]
set_option maxRecDepth 100000 in
set_option maxHeartbeats 6400000 in
theorem unit_all (n : Bool) (a b s : Int) (n' : Bool) (a' b' s' m : Int) (w : World) (ha : U64 a) (hb1 : U64 b) (ha' : U64 a') (hb1' : U64 b') :
    Calls Tryd.prog 8 #[.agg #[.bool n, .int .u64 a, .int .u64 b, .int .i64 s], .agg #[.bool n', .int .u64 a', .int .u64 b', .int .i64 s'], .int .i64 m] w (Ret w (Ans (unitV n a b s n' a' b' s' m))) := by
  have Q0 := Lib.hid (QS.two w n a b s n' a' b' s')
  obtain ⟨σ, hσ⟩ : ∃ σ, signV n' a' b' s' = σ := ⟨_, rfl⟩
  have HS := Lib.hid hσ
  by_cases hp : 0 < σ
  · have hdl : decide (σ ≤ 0) = false := decide_eq_false (by omega)
    have hpos : 0 < signV n' a' b' s' := by omega
    have hsp := signp_of hpos
    by_cases hg : RightD n a b s ∧ GoodM 0 m
    · have hr := hg.1
      have h0 := hr.2.1
      have h9 := hr.2.2.1
      have h0' := hsp.1.2.1
      have h9' := hsp.1.2.2.1
      obtain ⟨R, hR⟩ : ∃ R, roundN n (v2 a b * 10 ^ s'.toNat) (v2 a' b' * 10 ^ s.toNat) m = R := ⟨_, rfl⟩
      have HV : unitV n a b s n' a' b' s' m = chkV n (R * v2 a' b') s' := by
        unfold unitV
        rw [if_pos ⟨hr, hsp.1, hg.2, hpos⟩, hR]
      have DV := Lib.hid (show divV n a b s n' a' b' s' 0 m = chkV n R 0 by
        unfold divV
        rw [if_pos ⟨hr, hsp.1, hg.2⟩, if_neg hsp.2.2, hsp.2.1, Bool.bne_false, Int.zero_add, hR])
      rw [HV]
      by_cases hbig : 1000000000000000000000000000000 ≤ R
      · have HC := chk_mul n R (v2 a' b') 0 s' (by have := hsp.2.2; omega) hbig ⟨by omega, by omega⟩
        rw [HC.1]
        have dvo := DV.out
        rw [HC.2, err_form] at dvo
        obtain ⟨x, c, d, q, dv'⟩ : ∃ (x : Bool) (c d q : Int), divV n a b s n' a' b' s' 0 m = .tuple #[.agg #[.bool x, .int .u64 c, .int .u64 d, .int .i64 q], .int .i64 3] := ⟨_, _, _, _, dvo⟩
        replace DV := Lib.hid dv'
        clear dvo dv'
        clear hg hr hsp hpos hR HC HV hbig hσ
        go_enter Tryd.func8, Tryd.ntmps8
        go_wp2_with fail
        refine (sign_all n' a' b' s' _ ha' hb1').mono ?_
        rintro e w1 ⟨_, rfl, rfl, hb⟩
        have Q1 := Lib.hid (Q0.out.below hb)
        clear hb
        rw [HS.out]
        obtain ⟨lp, p0, p1, p2, p3⟩ := HB.dec (t := 27) (g := w.heap.size) (a := .bool n) (b := .int .u64 a) (c := .int .u64 b) (d := .int .i64 s) Q1.out.1 (by simp)
        obtain ⟨lq, q0, q1, q2, q3⟩ := HB.dec (t := 27) (g := w.heap.size + 1) (a := .bool n') (b := .int .u64 a') (c := .int .u64 b') (d := .int .i64 s') Q1.out.1 (by simp)
        go_wp2_with fail
        refine (div_all n a b s n' a' b' s' 0 m _ ha hb1 ha' hb1').mono ?_
        rintro e w3 ⟨v, hv, rfl, hb⟩
        have ev := ans_eq hv
        rw [DV.out] at ev
        subst ev
        have q4 := (Q1.out.below hb).push #[.bool x, .int .u64 c, .int .u64 d, .int .i64 q] 27
        have hlt4 := (Q1.out.below hb).2.lt
        obtain ⟨go, hgo⟩ : ∃ g, w3.heap.size = g := ⟨_, rfl⟩
        rw [hgo] at q4 hlt4
        obtain ⟨W4, hW4⟩ : ∃ y, w3.alloc (.cells #[.bool x, .int .u64 c, .int .u64 d, .int .i64 q] 27) = y := ⟨_, rfl⟩
        rw [hW4] at q4
        have Q4 := Lib.hid q4
        clear hb hv q4 lp p0 p1 p2 p3 lq q0 q1 q2 q3 Q1
        obtain ⟨lz, ⟨z0, z1, z2, z3⟩, y0, y1, y2, y3⟩ := blk_c4 Q4.out.2
        have HBB := Lib.hid Q4.out.1.1
        go_wp2
        exact bodyPost_ret (v := .tuple #[.agg #[.bool false, .int .u64 0, .int .u64 0, .int .i64 0], .int .i64 3]) (by simp [results, Tryd.results8, go_sem, z0, z1, z2, z3]) rfl ⟨_, ans_err 3, rfl, bel4 HBB.out (by omega)⟩
      · have hzb : (zOf n R).natAbs < 1000000000000000000000000000000 := by rw [zOf_abs]; omega
        obtain ⟨x, c, d, hD, eD⟩ := decV_is (z := zOf n R) (s := 0) hzb
        obtain ⟨q, hq⟩ : ∃ q : Int, q = 0 := ⟨_, rfl⟩
        have eR : v2 c d = R := by rw [hD.2.2.2, zOf_abs]
        have HM := Lib.hid (show mulV x c d q n' a' b' s' = chkV n (R * v2 a' b') s' by
          unfold mulV
          rw [hq, if_pos ⟨decIs_right hD hzb (by omega) (by omega), hsp.1⟩, hsp.2.1, Bool.bne_false, Int.zero_add, eR, chk_z _ _ _ h0' h9', chk_z _ _ _ h0' h9']
          rw [zOf_mul (x := x) (n := n) (by have := decIs_zOf hD; rw [eR] at this; exact this)])
        rw [← HM.out]
        have dvo := DV.out
        rw [show chkV n R 0 = .tuple #[.agg #[.bool x, .int .u64 c, .int .u64 d, .int .i64 q], .int .i64 0] by unfold chkV; rw [if_pos ⟨by omega, by omega, by omega⟩]; unfold okV; rw [eD, hq]] at dvo
        replace DV := Lib.hid dvo
        have hc := hD.2.1
        have hd := hD.2.2.1
        clear hg hr hsp hpos hR HM HV hbig hσ hzb hD eD eR hq dvo
        go_enter Tryd.func8, Tryd.ntmps8
        go_wp2_with fail
        refine (sign_all n' a' b' s' _ ha' hb1').mono ?_
        rintro e w1 ⟨_, rfl, rfl, hb⟩
        have Q1 := Lib.hid (Q0.out.below hb)
        clear hb
        rw [HS.out]
        obtain ⟨lp, p0, p1, p2, p3⟩ := HB.dec (t := 27) (g := w.heap.size) (a := .bool n) (b := .int .u64 a) (c := .int .u64 b) (d := .int .i64 s) Q1.out.1 (by simp)
        obtain ⟨lq, q0, q1, q2, q3⟩ := HB.dec (t := 27) (g := w.heap.size + 1) (a := .bool n') (b := .int .u64 a') (c := .int .u64 b') (d := .int .i64 s') Q1.out.1 (by simp)
        go_wp2_with fail
        refine (div_all n a b s n' a' b' s' 0 m _ ha hb1 ha' hb1').mono ?_
        rintro e w3 ⟨v, hv, rfl, hb⟩
        have ev := ans_eq hv
        rw [DV.out] at ev
        subst ev
        have q4 := (Q1.out.below hb).push #[.bool x, .int .u64 c, .int .u64 d, .int .i64 q] 27
        have hlt4 := (Q1.out.below hb).2.lt
        obtain ⟨go, hgo⟩ : ∃ g, w3.heap.size = g := ⟨_, rfl⟩
        rw [hgo] at q4 hlt4
        obtain ⟨W4, hW4⟩ : ∃ y, w3.alloc (.cells #[.bool x, .int .u64 c, .int .u64 d, .int .i64 q] 27) = y := ⟨_, rfl⟩
        rw [hW4] at q4
        have Q4 := Lib.hid q4
        clear hb hv q4 lp p0 p1 p2 p3 lq q0 q1 q2 q3 Q1
        obtain ⟨lp, p0, p1, p2, p3⟩ := HB.dec (t := 27) (g := w.heap.size + 1) (a := .bool n') (b := .int .u64 a') (c := .int .u64 b') (d := .int .i64 s') Q4.out.1 (by simp)
        obtain ⟨lq, q0, q1, q2, q3⟩ := HB.dec (t := 27) (g := go) (a := .bool x) (b := .int .u64 c) (c := .int .u64 d) (d := .int .i64 q) Q4.out.1 (by simp)
        go_wp2_with fail
        clear hgo hW4
        refine (mul_all x c d q n' a' b' s' _ hc hd ha' hb1').mono ?_
        rintro e x9 ⟨_, ⟨m4, c4, d4, q4, e4, D4, rfl⟩, rfl, hb⟩
        have Q9 := Lib.hid (Q4.out.below hb)
        have HD4 := Lib.hid D4
        clear hb D4 lq q0 q1 q2 q3 lp p0 p1 p2 p3
        have hne : ∀ b0 ∈ ([(go, 27, #[.bool x, .int .u64 c, .int .u64 d, .int .i64 q]), (w.heap.size + 1, 27, #[.bool n', .int .u64 a', .int .u64 b', .int .i64 s']), (w.heap.size, 27, #[.bool n, .int .u64 a, .int .u64 b, .int .i64 s])] : List (Nat × TypeId × Array Value)), b0.1 ≠ w.heap.size + 1 + 1 := by intro b0 hb0; simp at hb0; rcases hb0 with rfl | rfl | rfl <;> simp <;> omega
        obtain ⟨lz, ⟨z0, z1, z2, z3⟩, y0, y1, y2, y3⟩ := blk_c4 Q9.out.2
        have VS1 := HB.set4 (a' := .bool m4) (b' := .int .u64 c4) (c' := .int .u64 d4) (d' := .int .i64 q4) Q9.out.1 Q9.out.2 (by omega) hne
        obtain ⟨lt, t0, t1, t2, t3⟩ := HB.dec (t := 27) (g := w.heap.size + 1 + 1) (a := .bool m4) (b := .int .u64 c4) (c := .int .u64 d4) (d := .int .i64 q4) VS1 (by simp)
        have HB1 := Lib.hid VS1.1
        clear VS1
        go_wp2
        exact bodyPost_ret (v := .tuple #[.agg #[.bool m4, .int .u64 c4, .int .u64 d4, .int .i64 q4], .int .i64 e4]) (by simp [results, Tryd.results8, go_sem, t0, t1, t2, t3]) rfl ⟨_, ⟨_, _, _, _, _, HD4.out, rfl⟩, rfl, HB1.out⟩
    · have HV : unitV n a b s n' a' b' s' m = errV 1 := by unfold unitV; rw [if_neg (fun g => hg ⟨g.1, g.2.2.1⟩)]
      rw [HV]
      have DV := Lib.hid (show divV n a b s n' a' b' s' 0 m = errV 1 by unfold divV; rw [if_neg (fun g => hg ⟨g.1, g.2.2⟩)])
      have dvo := DV.out
      rw [show errV 1 = errV 1 from rfl, err_form] at dvo
      obtain ⟨x, c, d, q, dv'⟩ : ∃ (x : Bool) (c d q : Int), divV n a b s n' a' b' s' 0 m = .tuple #[.agg #[.bool x, .int .u64 c, .int .u64 d, .int .i64 q], .int .i64 1] := ⟨_, _, _, _, dvo⟩
      replace DV := Lib.hid dv'
      clear dvo dv'
      clear hg hsp hpos HV hσ
      go_enter Tryd.func8, Tryd.ntmps8
      go_wp2_with fail
      refine (sign_all n' a' b' s' _ ha' hb1').mono ?_
      rintro e w1 ⟨_, rfl, rfl, hb⟩
      have Q1 := Lib.hid (Q0.out.below hb)
      clear hb
      rw [HS.out]
      obtain ⟨lp, p0, p1, p2, p3⟩ := HB.dec (t := 27) (g := w.heap.size) (a := .bool n) (b := .int .u64 a) (c := .int .u64 b) (d := .int .i64 s) Q1.out.1 (by simp)
      obtain ⟨lq, q0, q1, q2, q3⟩ := HB.dec (t := 27) (g := w.heap.size + 1) (a := .bool n') (b := .int .u64 a') (c := .int .u64 b') (d := .int .i64 s') Q1.out.1 (by simp)
      go_wp2_with fail
      refine (div_all n a b s n' a' b' s' 0 m _ ha hb1 ha' hb1').mono ?_
      rintro e w3 ⟨v, hv, rfl, hb⟩
      have ev := ans_eq hv
      rw [DV.out] at ev
      subst ev
      have q4 := (Q1.out.below hb).push #[.bool x, .int .u64 c, .int .u64 d, .int .i64 q] 27
      have hlt4 := (Q1.out.below hb).2.lt
      obtain ⟨go, hgo⟩ : ∃ g, w3.heap.size = g := ⟨_, rfl⟩
      rw [hgo] at q4 hlt4
      obtain ⟨W4, hW4⟩ : ∃ y, w3.alloc (.cells #[.bool x, .int .u64 c, .int .u64 d, .int .i64 q] 27) = y := ⟨_, rfl⟩
      rw [hW4] at q4
      have Q4 := Lib.hid q4
      clear hb hv q4 lp p0 p1 p2 p3 lq q0 q1 q2 q3 Q1
      obtain ⟨lz, ⟨z0, z1, z2, z3⟩, y0, y1, y2, y3⟩ := blk_c4 Q4.out.2
      have HBB := Lib.hid Q4.out.1.1
      go_wp2
      exact bodyPost_ret (v := .tuple #[.agg #[.bool false, .int .u64 0, .int .u64 0, .int .i64 0], .int .i64 1]) (by simp [results, Tryd.results8, go_sem, z0, z1, z2, z3]) rfl ⟨_, ans_err 1, rfl, bel4 HBB.out (by omega)⟩
  · have hdl : decide (σ ≤ 0) = true := decide_eq_true (by omega)
    rw [sign_nonpos 0 n a b s m (by rw [hσ]; exact hp) rfl]
    clear hσ
    go_enter Tryd.func8, Tryd.ntmps8
    go_wp2_with fail
    refine (sign_all n' a' b' s' _ ha' hb1').mono ?_
    rintro e w1 ⟨_, rfl, rfl, hb⟩
    have Q1 := Lib.hid (Q0.out.below hb)
    clear hb
    rw [HS.out]
    obtain ⟨lz, ⟨z0, z1, z2, z3⟩, y0, y1, y2, y3⟩ := blk_c4 Q1.out.2
    have HBB := Lib.hid Q1.out.1.1
    go_wp2
    exact bodyPost_ret (v := .tuple #[.agg #[.bool false, .int .u64 0, .int .u64 0, .int .i64 0], .int .i64 1]) (by simp [results, Tryd.results8, go_sem, z0, z1, z2, z3]) rfl ⟨_, ans_err 1, rfl, bel4 HBB.out (by omega)⟩
end Go.Proofs.YtkaflkofffgndaaDoor

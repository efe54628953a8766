/- For every input 'QuantSigns' returns true and leaves its arguments as they were. No condition. -/
import Derived.Test.YtfppkhbbcnplfaaRows
import Derived.WalkKit
import Derived.ProofKit
import Derived.OpenShut
import Derived.Test.YtfppkhbbcnplfaaQSignsA
import Derived.Test.YtfppkhbbcnplfaaHold
import Derived.Test.YtfppkhbbcnplfaaPost
namespace Go.Proofs.Ytfppkhbbcnplfaa.quantSigns
open Go.ChangeShapes Go.WideShapes Go.ChangeAt Go.RowKit
set_option linter.unusedVariables false

theorem own : ownKnob Try.prog.godebug = none := by kernel_rfl

theorem neq_false (n : Bool) : (n != false) = n := by cases n <;> rfl
theorem powk_le {k K M : Nat} (h : k ≤ K) (hM : 10 ^ K = M) : 10 ^ k ≤ M := by rw [← hM]; exact Nat.pow_le_pow_right (n := 10) (by decide) h
theorem mul_le2 {a b M N : Nat} (ha : a ≤ M) (hb : b ≤ N) : a * b ≤ M * N := Nat.mul_le_mul ha hb
theorem idxM (k : Nat) (hk : k < 4) : ∃ μ : Int, (μ = 0 ∨ μ = 1 ∨ μ = 3 ∨ μ = 4) ∧ ∀ w : World, (Instr.index 42 (.agg #[.int .i64 0, .int .i64 1, .int .i64 3, .int .i64 4]) (.int .i64 (k : Int))).run Try.prog w = .ok (.int .i64 μ) w := by
  rcases (show k = 0 ∨ k = 1 ∨ k = 2 ∨ k = 3 by omega) with rfl | rfl | rfl | rfl
  · exact ⟨0, by decide, fun w => by kernel_rfl⟩
  · exact ⟨1, by decide, fun w => by kernel_rfl⟩
  · exact ⟨3, by decide, fun w => by kernel_rfl⟩
  · exact ⟨4, by decide, fun w => by kernel_rfl⟩
theorem qsMk {w0 w : World} {h1 h2 h3 h4 h5 : Nat} {n1 n3 n4 n5 : Bool} {a1 b1 s a2 b2 t a3 b3 o a4 b4 a5 b5 : Int} (h : HB w0 [(h5, 25, #[.bool n5, .int .u64 a5, .int .u64 b5, .int .i64 o]), (h4, 25, #[.bool n4, .int .u64 a4, .int .u64 b4, .int .i64 o]), (h3, 25, #[.bool n3, .int .u64 a3, .int .u64 b3, .int .i64 o]), (h2, 25, #[.bool false, .int .u64 a2, .int .u64 b2, .int .i64 t]), (h1, 25, #[.bool n1, .int .u64 a1, .int .u64 b1, .int .i64 s])] w) : HB w0 [(h5, 25, #[.bool n5, .int .u64 a5, .int .u64 b5, .int .i64 o]), (h4, 25, #[.bool n4, .int .u64 a4, .int .u64 b4, .int .i64 o]), (h3, 25, #[.bool n3, .int .u64 a3, .int .u64 b3, .int .i64 o]), (h2, 25, #[.bool false, .int .u64 a2, .int .u64 b2, .int .i64 t]), (h1, 25, #[.bool n1, .int .u64 a1, .int .u64 b1, .int .i64 s])] w ∧ (w.cell? ⟨h1, 0, none⟩ = some (.bool n1) ∧ w.cell? ⟨h1, 1, none⟩ = some (.int .u64 a1) ∧ w.cell? ⟨h1, 2, none⟩ = some (.int .u64 b1) ∧ w.cell? ⟨h1, 3, none⟩ = some (.int .i64 s)) ∧ (w.cell? ⟨h2, 0, none⟩ = some (.bool false) ∧ w.cell? ⟨h2, 1, none⟩ = some (.int .u64 a2) ∧ w.cell? ⟨h2, 2, none⟩ = some (.int .u64 b2) ∧ w.cell? ⟨h2, 3, none⟩ = some (.int .i64 t)) :=
  ⟨h, (HB.dec (t := 25) h (by simp)).2, (HB.dec (t := 25) h (by simp)).2⟩
set_option maxRecDepth 100000 in
set_option maxHeartbeats 12800000 in
theorem walk (pn ps po pd pe : Int) (_ : (Lit.int .i64 pn).wf = true) (_ : (Lit.int .i64 ps).wf = true) (_ : (Lit.int .i64 po).wf = true) (_ : (Lit.int .i64 pd).wf = true) (_ : (Lit.int .i64 pe).wf = true) (w : World) : Calls Try.prog 6 #[.int .i64 pn, .int .i64 ps, .int .i64 po, .int .i64 pd, .int .i64 pe] w fun e w' => e = .returned (.bool true) ∧ Below w.heap.size w w' := by
  go_enter Try.func6, Try.ntmps6
  have V := HB.start (Below.refl w.heap.size w)
  go_wp2_with fail
  refine (pick_c _ 2000000001 _ (by omega) (by omega)).mono ?_
  rintro e w' ⟨_, ⟨v1, ⟨lo1, hi1⟩, rfl⟩, rfl, rfl⟩
  obtain ⟨x, ex⟩ : ∃ x : Int, v1 - 1000000000 = x := ⟨_, rfl⟩
  have hx : x.natAbs ≤ 1000000000 := by omega
  go_wp2_with fail
  refine (pick_c _ 6 _ (by omega) (by omega)).mono ?_
  rintro e w' ⟨_, ⟨s, ⟨ls, hs⟩, rfl⟩, rfl, rfl⟩
  go_wp2_with fail
  refine (refOf_c x s _ (by omega) (by omega) (by omega) (by omega)).mono ?_
  clear lo1 hi1 ex
  rintro e w1 ⟨_, ⟨n1, a1, b1, D1, rfl⟩, rfl, hb⟩
  replace V := V.below hb
  clear hb
  replace V := V.push #[.bool n1, .int .u64 a1, .int .u64 b1, .int .i64 s] 25
  go_wp2_with fail
  refine (pick_c _ 5000 _ (by omega) (by omega)).mono ?_
  rintro e w' ⟨_, ⟨v2, ⟨lo2, hi2⟩, rfl⟩, rfl, rfl⟩
  obtain ⟨y, ey⟩ : ∃ y : Int, 1 + v2 = y := ⟨_, rfl⟩
  have hy0 : 0 < y := by omega
  have hy5 : y ≤ 5000 := by omega
  go_wp2_with fail
  refine (pick_c _ 3 _ (by omega) (by omega)).mono ?_
  rintro e w' ⟨_, ⟨t, ⟨lt, ht⟩, rfl⟩, rfl, rfl⟩
  go_wp2_with fail
  refine (refOf_c y t _ (by omega) (by omega) (by omega) (by omega)).mono ?_
  clear lo2 hi2 ey
  rintro e w2 ⟨_, ⟨n2, a2, b2, D2, rfl⟩, rfl, hb⟩
  obtain rfl : n2 = false := by rw [D2.1]; exact decide_eq_false (by omega)
  replace V := V.below hb
  clear hb
  obtain ⟨g1, p10, p11, p12, p13⟩ := HB.dec (t := 25) (g := w1.heap.size) (a := .bool n1) (b := .int .u64 a1) (c := .int .u64 b1) (d := .int .i64 s) V (by simp)
  have hg12 := g1
  replace V := V.push #[.bool false, .int .u64 a2, .int .u64 b2, .int .i64 t] 25
  go_wp2_with fail
  refine (pick_c _ 6 _ (by omega) (by omega)).mono ?_
  rintro e w' ⟨_, ⟨o, ⟨lo, ho⟩, rfl⟩, rfl, rfl⟩
  clear g1 p10 p11 p12 p13
  have s9 : s ≤ 9 := by omega
  have t9 : t ≤ 9 := by omega
  have o9 : o ≤ 9 := by omega
  have hnx : (-x).natAbs ≤ 1000000000 := by omega
  have Sx := Lib.hid (show Sm x by unfold Sm; omega)
  have Snx := Lib.hid (show Sm (-x) by unfold Sm; omega)
  have Sy := Lib.hid (show Sm y by unfold Sm; omega)
  have hyne : y ≠ 0 := by omega
  have hM1 : x.natAbs * 10 ^ (o + 0 - s).toNat ≤ 100000000000000 := by have := mul_le2 hx (powk_le (k := (o + 0 - s).toNat) (K := 5) (M := 100000) (by omega) rfl); omega
  have hM3 : x.natAbs * 10 ^ (o + t - s).toNat ≤ 10000000000000000 := by have := mul_le2 hx (powk_le (k := (o + t - s).toNat) (K := 7) (M := 10000000) (by omega) rfl); omega
  obtain ⟨nn, aa, bb, Dn⟩ := dec_ex (-x) (by omega)
  have hxy : (x * y).natAbs ≤ 5000000000000 := by rw [Int.natAbs_mul]; have := mul_le2 hx (show y.natAbs ≤ 5000 by omega); omega
  have Hxy := Lib.hid hxy
  have HM1 := Lib.hid hM1
  have HM3 := Lib.hid hM3
  have Hst := Lib.hid (show s + t ≤ 9 by omega)
  clear hx hnx hM1 hM3 hxy hs ht ho hy5
  go_wp2_with fail
  go_loopw [47] (fun i wr => ∃ k : Nat, k ≤ 4 ∧ i = .int .i64 k ∧ HB w [(w2.heap.size, 25, #[.bool false, .int .u64 a2, .int .u64 b2, .int .i64 t]), (w1.heap.size, 25, #[.bool n1, .int .u64 a1, .int .u64 b1, .int .i64 s])] wr) (fun i _ => 4 - (intOf i).toNat)
  case atStart => exact ⟨0, by omega, rfl, V⟩
  case round =>
    clear V
    obtain ⟨k, hk, rfl, V⟩ := hrel
    by_cases hk4 : k < 4
    · as_aux_lemma =>
        obtain ⟨μ, hμ4, hidx⟩ := idxM k hk4
        have hμ2 : μ ≠ 2 := by omega
        have Hμ := Lib.hid (show μ = 0 ∨ μ = 1 ∨ μ = 2 ∨ μ = 3 ∨ μ = 4 by omega)
        obtain ⟨N, hN⟩ : ∃ N : Nat, divN n1 x s 1 0 o μ = N := ⟨_, rfl⟩
        obtain ⟨M, hM⟩ : ∃ M : Nat, divN (n1 != false) x s y t o μ = M := ⟨_, rfl⟩
        have hNb : N ≤ 100000000000001 := by rw [← hN]; exact divN_le n1 x s 1 0 o μ HM1.out
        have hMb : M ≤ 10000000000000001 := by rw [← hM]; exact divN_le _ x s y t o μ HM3.out
        obtain ⟨ζ, hζ⟩ : ∃ ζ : Int, zOf n1 N = ζ := ⟨_, rfl⟩
        obtain ⟨ξ, hξ⟩ : ∃ ξ : Int, zOf (n1 != false) M = ξ := ⟨_, rfl⟩
        have hζb : ζ.natAbs ≤ 100000000000001 := by rw [← hζ, zOf_abs]; exact hNb
        have hξb : ξ.natAbs ≤ 10000000000000001 := by rw [← hξ, zOf_abs]; exact hMb
        have hN2 : divN nn (-x) s 1 0 o μ = N := by rw [← hN]; exact divN_neg n1 nn x s 1 0 o μ hμ2
        have hM2 : divN (nn != false) (-x) s y t o μ = M := by rw [← hM]; exact divN_neg _ _ x s y t o μ hμ2
        have hζ2 : zOf nn N = -ζ := by rw [← hζ]; exact zOf_negx D1.1 Dn.1 (fun e => by rw [← hN, e]; exact divN_zero _ _ _ _ _ _)
        have hξ2 : zOf (nn != false) M = -ξ := by
          rw [← hξ, neq_false, neq_false]
          exact zOf_negx D1.1 Dn.1 (fun e => by rw [← hM, e]; exact divN_zero _ _ _ _ _ _)
        obtain ⟨n3, a3, b3, D3⟩ := dec_ex ζ (by omega)
        obtain ⟨n4, a4, b4, D4⟩ := dec_ex (-ζ) (by omega)
        obtain ⟨n5, a5, b5, D5⟩ := dec_ex ξ (by omega)
        obtain ⟨n6, a6, b6, D6⟩ := dec_ex (-ξ) (by omega)
        have Sζ := Lib.hid (show ζ.natAbs < 1000000000000000000000000000000 by omega)
        have Sξ := Lib.hid (show ξ.natAbs < 1000000000000000000000000000000 by omega)
        have HNb := Lib.hid (show N < 1000000000000000000000000000000 by omega)
        have HMb := Lib.hid (show M < 1000000000000000000000000000000 by omega)
        have HN := Lib.hid hN
        have HM := Lib.hid hM
        have HN2 := Lib.hid hN2
        have HM2 := Lib.hid hM2
        have Hζ := Lib.hid hζ
        have Hξ := Lib.hid hξ
        have Hζ2 := Lib.hid hζ2
        have Hξ2 := Lib.hid hξ2
        have q4 := eqW2_yes (a := a4) (b := b4) (c := a4) (d := b4) ⟨rfl, rfl⟩
        have q6 := eqW2_yes (a := a6) (b := b6) (c := a6) (d := b6) ⟨rfl, rfl⟩
        clear hN hM hN2 hM2 hζ hξ hζ2 hξ2 hNb hMb hζb hξb hμ4 hμ2
        obtain ⟨g1, p10, p11, p12, p13⟩ := HB.dec (t := 25) (g := w1.heap.size) (a := .bool n1) (b := .int .u64 a1) (c := .int .u64 b1) (d := .int .i64 s) V (by simp)
        obtain ⟨g2, p20, p21, p22, p23⟩ := HB.dec (t := 25) (g := w2.heap.size) (a := .bool false) (b := .int .u64 a2) (c := .int .u64 b2) (d := .int .i64 t) V (by simp)
        go_wp2_with fail
        refine (quant_v n1 a1 b1 s x o μ n3 a3 b3 ζ _ D1 D3 (sm_30 Sx.out) ls s9 lo o9 Hμ.out N HN.out HNb.out Hζ.out).mono ?_
        rintro e w3 ⟨_, rfl, rfl, hb⟩
        replace V := V.below hb
        clear hb
        clear g1 p10 p11 p12 p13 g2 p20 p21 p22 p23
        obtain ⟨g1, p10, p11, p12, p13⟩ := HB.dec (t := 25) (g := w1.heap.size) (a := .bool n1) (b := .int .u64 a1) (c := .int .u64 b1) (d := .int .i64 s) V (by simp)
        obtain ⟨g2, p20, p21, p22, p23⟩ := HB.dec (t := 25) (g := w2.heap.size) (a := .bool false) (b := .int .u64 a2) (c := .int .u64 b2) (d := .int .i64 t) V (by simp)
        replace V := V.push #[.bool n3, .int .u64 a3, .int .u64 b3, .int .i64 o] 25
        go_wp2_with fail
        refine (neg_v n1 a1 b1 s x nn aa bb _ D1 Dn (sm_30 Sx.out) ls s9).mono ?_
        rintro e wn ⟨_, rfl, rfl, hb⟩
        replace V := V.below hb
        clear hb
        clear g1 p10 p11 p12 p13 g2 p20 p21 p22 p23
        obtain ⟨g1, p10, p11, p12, p13⟩ := HB.dec (t := 25) (g := w1.heap.size) (a := .bool n1) (b := .int .u64 a1) (c := .int .u64 b1) (d := .int .i64 s) V (by simp)
        obtain ⟨g2, p20, p21, p22, p23⟩ := HB.dec (t := 25) (g := w2.heap.size) (a := .bool false) (b := .int .u64 a2) (c := .int .u64 b2) (d := .int .i64 t) V (by simp)
        obtain ⟨g3, p30, p31, p32, p33⟩ := HB.dec (t := 25) (g := w3.heap.size) (a := .bool n3) (b := .int .u64 a3) (c := .int .u64 b3) (d := .int .i64 o) V (by simp)
        go_wp2_with fail
        refine (quant_v nn aa bb s (-x) o μ n4 a4 b4 (-ζ) _ Dn D4 (sm_30 Snx.out) ls s9 lo o9 Hμ.out N HN2.out HNb.out Hζ2.out).mono ?_
        rintro e w4 ⟨_, rfl, rfl, hb⟩
        replace V := V.below hb
        clear hb
        clear g1 p10 p11 p12 p13 g2 p20 p21 p22 p23 g3 p30 p31 p32 p33
        obtain ⟨g1, p10, p11, p12, p13⟩ := HB.dec (t := 25) (g := w1.heap.size) (a := .bool n1) (b := .int .u64 a1) (c := .int .u64 b1) (d := .int .i64 s) V (by simp)
        obtain ⟨g2, p20, p21, p22, p23⟩ := HB.dec (t := 25) (g := w2.heap.size) (a := .bool false) (b := .int .u64 a2) (c := .int .u64 b2) (d := .int .i64 t) V (by simp)
        obtain ⟨g3, p30, p31, p32, p33⟩ := HB.dec (t := 25) (g := w3.heap.size) (a := .bool n3) (b := .int .u64 a3) (c := .int .u64 b3) (d := .int .i64 o) V (by simp)
        replace V := V.push #[.bool n4, .int .u64 a4, .int .u64 b4, .int .i64 o] 25
        go_wp2_with fail
        refine (div_v n1 a1 b1 s x false a2 b2 t y o μ n5 a5 b5 ξ _ D1 D2 D5 (sm_30 Sx.out) Sy.out hyne ls lt s9 t9 lo o9 Hμ.out M HM.out HMb.out Hξ.out).mono ?_
        rintro e w5 ⟨_, rfl, rfl, hb⟩
        replace V := V.below hb
        clear hb
        clear g1 p10 p11 p12 p13 g2 p20 p21 p22 p23 g3 p30 p31 p32 p33
        obtain ⟨g1, p10, p11, p12, p13⟩ := HB.dec (t := 25) (g := w1.heap.size) (a := .bool n1) (b := .int .u64 a1) (c := .int .u64 b1) (d := .int .i64 s) V (by simp)
        obtain ⟨g2, p20, p21, p22, p23⟩ := HB.dec (t := 25) (g := w2.heap.size) (a := .bool false) (b := .int .u64 a2) (c := .int .u64 b2) (d := .int .i64 t) V (by simp)
        obtain ⟨g3, p30, p31, p32, p33⟩ := HB.dec (t := 25) (g := w3.heap.size) (a := .bool n3) (b := .int .u64 a3) (c := .int .u64 b3) (d := .int .i64 o) V (by simp)
        obtain ⟨g4, p40, p41, p42, p43⟩ := HB.dec (t := 25) (g := w4.heap.size) (a := .bool n4) (b := .int .u64 a4) (c := .int .u64 b4) (d := .int .i64 o) V (by simp)
        replace V := V.push #[.bool n5, .int .u64 a5, .int .u64 b5, .int .i64 o] 25
        have VV := V
        have h0 := V.1.size
        simp at h0
        clear V
        have h1 := g1
        have h2 := g2
        have h3 := g3
        have h4 := g4
        clear g1 p10 p11 p12 p13 g2 p20 p21 p22 p23 g3 p30 p31 p32 p33 g4 p40 p41 p42 p43
        have RN := Lib.hid (show ∀ wq : World, Calls Try.prog 21 #[.agg #[.bool n1, .int .u64 a1, .int .u64 b1, .int .i64 s]] wq (Ret wq (· = .agg #[.bool nn, .int .u64 aa, .int .u64 bb, .int .i64 s])) from fun wq => neg_v n1 a1 b1 s x nn aa bb wq D1 Dn (sm_30 Sx.out) ls s9)
        have RD := Lib.hid (show ∀ wq : World, Calls Try.prog 10 #[.agg #[.bool nn, .int .u64 aa, .int .u64 bb, .int .i64 s], .agg #[.bool false, .int .u64 a2, .int .u64 b2, .int .i64 t], .int .i64 o, .int .i64 μ] wq (Ret wq (· = .tuple #[.agg #[.bool n6, .int .u64 a6, .int .u64 b6, .int .i64 o], .int .i64 0])) from fun wq => div_v nn aa bb s (-x) false a2 b2 t y o μ n6 a6 b6 (-ξ) wq Dn D2 D6 (sm_30 Snx.out) Sy.out hyne ls lt s9 t9 lo o9 Hμ.out M HM2.out HMb.out Hξ2.out)
        go_upto_region 10 with fail
        go_cut [21, 22, 47] from 47 to 108 (fun s' t' i' wx => ∃ gm : Nat, s' = .pointer (some ⟨gm, 0, none⟩) ∧ t' = .int .i64 0 ∧ i' = .int .i64 (k : Int) ∧ HB w ((gm, 25, #[.bool n6, .int .u64 a6, .int .u64 b6, .int .i64 o]) :: [(w5.heap.size, 25, #[.bool n5, .int .u64 a5, .int .u64 b5, .int .i64 o]), (w4.heap.size, 25, #[.bool n4, .int .u64 a4, .int .u64 b4, .int .i64 o]), (w3.heap.size, 25, #[.bool n3, .int .u64 a3, .int .u64 b3, .int .i64 o]), (w2.heap.size, 25, #[.bool false, .int .u64 a2, .int .u64 b2, .int .i64 t]), (w1.heap.size, 25, #[.bool n1, .int .u64 a1, .int .u64 b1, .int .i64 s])]) wx)
        case first =>
          go_region_held3 (fun w' => HB w [(w5.heap.size, 25, #[.bool n5, .int .u64 a5, .int .u64 b5, .int .i64 o]), (w4.heap.size, 25, #[.bool n4, .int .u64 a4, .int .u64 b4, .int .i64 o]), (w3.heap.size, 25, #[.bool n3, .int .u64 a3, .int .u64 b3, .int .i64 o]), (w2.heap.size, 25, #[.bool false, .int .u64 a2, .int .u64 b2, .int .i64 t]), (w1.heap.size, 25, #[.bool n1, .int .u64 a1, .int .u64 b1, .int .i64 s])] w' ∧ (w'.cell? ⟨w1.heap.size, 0, none⟩ = some (.bool n1) ∧ w'.cell? ⟨w1.heap.size, 1, none⟩ = some (.int .u64 a1) ∧ w'.cell? ⟨w1.heap.size, 2, none⟩ = some (.int .u64 b1) ∧ w'.cell? ⟨w1.heap.size, 3, none⟩ = some (.int .i64 s)) ∧ (w'.cell? ⟨w2.heap.size, 0, none⟩ = some (.bool false) ∧ w'.cell? ⟨w2.heap.size, 1, none⟩ = some (.int .u64 a2) ∧ w'.cell? ⟨w2.heap.size, 2, none⟩ = some (.int .u64 b2) ∧ w'.cell? ⟨w2.heap.size, 3, none⟩ = some (.int .i64 t)))
            ((refine qsMk ?_; repeat (first | (with_reducible exact HWm) | (with_reducible exact HWo) | (with_reducible exact VV) | (with_reducible refine HB.drew ?_) | (with_reducible refine HB.alloc ?_ _) | ((with_reducible refine HB.set_ ?_ ?_ ?_ _); rotate_left; (focus (simp; omega)); (focus (simp; omega))))))
            (first
              | (go_at_call 21; (with_reducible refine (RN.out _).mono ?_); rintro e wo ⟨_, rfl, rfl, hbo⟩; have HWo := keepB hbo (by assumption); have HBo := HB.bel HWo; have hszo := hbo.size; (try simp at hszo); (try ((refine rd_cutp (P := Blk wo (w5.heap.size + 1) 25 #[.bool false, .int .u64 0, .int .u64 0, .int .i64 0]) ?_ ?_); (focus ((refine Blk.below ?_ hbo ?_); (focus ((repeat (first | (with_reducible assumption) | ((with_reducible refine Blk.new_at ?_); (simp; done)) | (with_reducible refine Blk.drew ?_) | (with_reducible refine Blk.alloc ?_ _))); done)); (first | omega | (simp; done) | (simp; omega)))); intro A; have lA := A.lt; have A0 := A.cell 0; have A1 := A.cell 1; have A2 := A.cell 2; have A3 := A.cell 3; have fA0 := A.frozen 0; have fA1 := A.frozen 1; have fA2 := A.frozen 2; have fA3 := A.frozen 3; simp at A0 A1 A2 A3)); clear hbo)
              | (go_at_call 10; (with_reducible refine (RD.out _).mono ?_); rintro e wu ⟨_, rfl, rfl, hbu⟩; have HWm := keepB hbu (by assumption); have HBm := HB.bel HWm; have hszu := hbu.size; (try simp at hszu); (try ((refine rd_cutp (P := Blk wu (w5.heap.size + 1) 25 #[.bool false, .int .u64 0, .int .u64 0, .int .i64 0]) ?_ ?_); (focus ((refine Blk.below ?_ hbu ?_); (focus ((repeat (first | (with_reducible assumption) | ((with_reducible refine Blk.new_at ?_); (simp; done)) | (with_reducible refine Blk.drew ?_) | (with_reducible refine Blk.alloc ?_ _))); done)); (first | omega | (simp; done) | (simp; omega)))); intro B; have lB := B.lt; have B0 := B.cell 0; have B1 := B.cell 1; have B2 := B.cell 2; have B3 := B.cell 3; have fB0 := B.frozen 0; have fB1 := B.frozen 1; have fB2 := B.frozen 2; have fB3 := B.frozen 3; simp at B0 B1 B2 B3)); (try ((refine rd_cutp (P := Blk wu (wo.heap.size) 25 #[.bool false, .int .u64 0, .int .u64 0, .int .i64 0]) ?_ ?_); (focus ((refine Blk.below ?_ hbu ?_); (focus ((repeat (first | (with_reducible assumption) | ((with_reducible refine Blk.new_at ?_); (simp; done)) | (with_reducible refine Blk.drew ?_) | (with_reducible refine Blk.alloc ?_ _))); done)); (first | omega | (simp; done) | (simp; omega)))); intro C; have lC := C.lt; have C0 := C.cell 0; have C1 := C.cell 1; have C2 := C.cell 2; have C3 := C.cell 3; have fC0 := C.frozen 0; have fC1 := C.frozen 1; have fC2 := C.frozen 2; have fC3 := C.frozen 3; simp at C0 C1 C2 C3)); clear hbu))
          all_goals
            go_wp2_with fail
            go_meet
            case rel =>
              refine ⟨_, rfl, rfl, rfl, ?_, ?_⟩
              · repeat (first | (with_reducible exact HBm) | (with_reducible refine bel_alloc ?_ _) | ((with_reducible refine Below.setCell ?_ ?_ _); rotate_left; (focus (simp; omega))))
              · intro b hb
                rcases List.mem_cons.1 hb with rfl | hb
                · dsimp only
                  repeat (first | ((with_reducible refine Blk.new_at ?_); (simp; done)) | (with_reducible refine Blk.alloc ?_ _) | (with_reducible exact rd_set4 B) | (with_reducible exact rd_set4 C) | (with_reducible refine rd_set4 (a := .bool false) (b := .int .u64 0) (c := .int .u64 0) (d := .int .i64 0) ?_))
                · have BR := HWm.2 b hb
                  have hbl : b.1 < w5.heap.size + 1 := by
                    simp at hb
                    rcases hb with rfl | rfl | rfl | rfl | rfl <;> (dsimp only; omega)
                  clear hb
                  obtain ⟨bg, bt, bc⟩ := b
                  dsimp only at BR hbl ⊢
                  repeat (first | (with_reducible exact BR) | (with_reducible refine Blk.alloc ?_ _) | (refine Blk.far (p := ⟨_, _, none⟩) ?_ (by first | (simp; done) | (simp; omega) | omega) _))
        case rest =>
          clear VV
          obtain ⟨gm, rfl, rfl, rfl, V⟩ := hcut
          go_upto_region 11 with fail
          refine wp_region_det (S := fun w' => HB w ((gm, 25, #[.bool n6, .int .u64 a6, .int .u64 b6, .int .i64 o]) :: [(w5.heap.size, 25, #[.bool n5, .int .u64 a5, .int .u64 b5, .int .i64 o]), (w4.heap.size, 25, #[.bool n4, .int .u64 a4, .int .u64 b4, .int .i64 o]), (w3.heap.size, 25, #[.bool n3, .int .u64 a3, .int .u64 b3, .int .i64 o]), (w2.heap.size, 25, #[.bool false, .int .u64 a2, .int .u64 b2, .int .i64 t]), (w1.heap.size, 25, #[.bool n1, .int .u64 a1, .int .u64 b1, .int .i64 s])]) w') (by kernel_rfl) (HB.drew V) ?_
          refine det_take (v := ?_) (i := 0) (fuel := 25) (by simp; rfl) (by kernel_rfl) (by kernel_rfl) (by kernel_rfl) (Or.inl ⟨by rfl, fun w' hS => Or.inl ⟨w', ?_, hS⟩⟩) ?_
          rotate_left
          · go_simp
            all_goals with_reducible rfl
          simp only [Act.put, List.setIfInBounds_toArray, List.set_cons_zero, List.set_cons_succ]
          refine det_take (v := ?_) (i := 1) (fuel := 24) (by simp; rfl) (by kernel_rfl) (by kernel_rfl) (by kernel_rfl) (Or.inl ⟨by rfl, fun w' hS => Or.inl ⟨w', ?_, hS⟩⟩) ?_
          rotate_left
          · go_simp
            all_goals with_reducible rfl
          simp only [Act.put, List.setIfInBounds_toArray, List.set_cons_zero, List.set_cons_succ]
          refine det_take (v := ?_) (i := 2) (fuel := 23) (by simp; rfl) (by kernel_rfl) (by kernel_rfl) (by kernel_rfl) (Or.inl ⟨by rfl, fun w' hS => Or.inl ⟨w', ?_, hS⟩⟩) ?_
          rotate_left
          · go_simp
            all_goals with_reducible rfl
          simp only [Act.put, List.setIfInBounds_toArray, List.set_cons_zero, List.set_cons_succ]
          refine det_take (v := ?_) (i := 3) (fuel := 22) (by simp; rfl) (by kernel_rfl) (by kernel_rfl) (by kernel_rfl) (Or.inl ⟨by rfl, fun w' hS => Or.inl ⟨w', ?_, hS⟩⟩) ?_
          rotate_left
          · go_simp
            all_goals with_reducible rfl
          simp only [Act.put, List.setIfInBounds_toArray, List.set_cons_zero, List.set_cons_succ]
          refine det_take (v := ?_) (i := 4) (fuel := 21) (by simp; rfl) (by kernel_rfl) (by kernel_rfl) (by kernel_rfl) (Or.inl ⟨by rfl, fun w' hS => Or.inl ⟨w', ?_, hS⟩⟩) ?_
          rotate_left
          · go_simp
            all_goals with_reducible rfl
          simp only [Act.put, List.setIfInBounds_toArray, List.set_cons_zero, List.set_cons_succ]
          refine det_take (v := ?_) (i := 5) (fuel := 20) (by simp; rfl) (by kernel_rfl) (by kernel_rfl) (by kernel_rfl) (Or.inl ⟨by rfl, fun w' hS => Or.inl ⟨w', ?_, hS⟩⟩) ?_
          rotate_left
          · go_simp
            all_goals with_reducible rfl
          simp only [Act.put, List.setIfInBounds_toArray, List.set_cons_zero, List.set_cons_succ]
          refine det_take (v := ?_) (i := 6) (fuel := 19) (by simp; rfl) (by kernel_rfl) (by kernel_rfl) (by kernel_rfl) (Or.inl ⟨by rfl, fun w' hS => Or.inl ⟨w', ?_, hS⟩⟩) ?_
          rotate_left
          · go_simp
            all_goals with_reducible rfl
          simp only [Act.put, List.setIfInBounds_toArray, List.set_cons_zero, List.set_cons_succ]
          refine det_take (v := ?_) (i := 7) (fuel := 18) (by simp; rfl) (by kernel_rfl) (by kernel_rfl) (by kernel_rfl) (Or.inl ⟨by rfl, fun w' hS => Or.inl ⟨w', ?_, hS⟩⟩) ?_
          rotate_left
          · go_simp
            all_goals with_reducible rfl
          simp only [Act.put, List.setIfInBounds_toArray, List.set_cons_zero, List.set_cons_succ]
          refine det_take (v := ?_) (i := 8) (fuel := 17) (by simp; rfl) (by kernel_rfl) (by kernel_rfl) (by kernel_rfl) (Or.inl ⟨by rfl, fun w' hS => Or.inl ⟨w', ?_, hS⟩⟩) ?_
          rotate_left
          · go_simp
            all_goals with_reducible rfl
          simp only [Act.put, List.setIfInBounds_toArray, List.set_cons_zero, List.set_cons_succ]
          refine det_take (v := ?_) (i := 9) (fuel := 16) (by simp; rfl) (by kernel_rfl) (by kernel_rfl) (by kernel_rfl) (Or.inl ⟨by rfl, fun w' hS => Or.inl ⟨w', ?_, hS⟩⟩) ?_
          rotate_left
          · go_simp
            all_goals with_reducible rfl
          simp only [Act.put, List.setIfInBounds_toArray, List.set_cons_zero, List.set_cons_succ]
          refine det_take (v := ?_) (i := 10) (fuel := 15) (by simp; rfl) (by kernel_rfl) (by kernel_rfl) (by kernel_rfl) (Or.inl ⟨by rfl, fun w' hS => Or.inl ⟨w', ?_, hS⟩⟩) ?_
          rotate_left
          · go_simp
            all_goals with_reducible rfl
          simp only [Act.put, List.setIfInBounds_toArray, List.set_cons_zero, List.set_cons_succ]
          refine det_take (v := ?_) (i := 11) (fuel := 14) (by simp; rfl) (by kernel_rfl) (by kernel_rfl) (by kernel_rfl) (Or.inl ⟨by rfl, fun w' hS => Or.inl ⟨w', ?_, hS⟩⟩) ?_
          rotate_left
          · go_simp
            all_goals with_reducible rfl
          simp only [Act.put, List.setIfInBounds_toArray, List.set_cons_zero, List.set_cons_succ]
          refine det_take (v := ?_) (i := 12) (fuel := 13) (by simp; rfl) (by kernel_rfl) (by kernel_rfl) (by kernel_rfl) (Or.inl ⟨by rfl, fun w' hS => Or.inl ⟨w', ?_, hS⟩⟩) ?_
          rotate_left
          · go_simp
            all_goals with_reducible rfl
          simp only [Act.put, List.setIfInBounds_toArray, List.set_cons_zero, List.set_cons_succ]
          refine det_take (v := ?_) (i := 13) (fuel := 12) (by simp; rfl) (by kernel_rfl) (by kernel_rfl) (by kernel_rfl) (Or.inl ⟨by rfl, fun w' hS => Or.inl ⟨w', ?_, hS⟩⟩) ?_
          rotate_left
          · go_simp
            all_goals with_reducible rfl
          simp only [Act.put, List.setIfInBounds_toArray, List.set_cons_zero, List.set_cons_succ]
          refine det_take (v := ?_) (i := 14) (fuel := 11) (by simp; rfl) (by kernel_rfl) (by kernel_rfl) (by kernel_rfl) (Or.inl ⟨by rfl, fun w' hS => Or.inl ⟨w', ?_, hS⟩⟩) ?_
          rotate_left
          · go_simp
            all_goals with_reducible rfl
          simp only [Act.put, List.setIfInBounds_toArray, List.set_cons_zero, List.set_cons_succ]
          refine det_take (v := ?_) (i := 15) (fuel := 10) (by simp; rfl) (by kernel_rfl) (by kernel_rfl) (by kernel_rfl) (Or.inl ⟨by rfl, fun w' hS => Or.inl ⟨w', ?_, hS⟩⟩) ?_
          rotate_left
          · obtain ⟨-, c0, c1, c2, c3⟩ := HB.dec (t := 25) (g := w4.heap.size) (a := .bool n4) (b := .int .u64 a4) (c := .int .u64 b4) (d := .int .i64 o) hS (by simp)
            go_simp
            all_goals with_reducible rfl
          simp only [Act.put, List.setIfInBounds_toArray, List.set_cons_zero, List.set_cons_succ]
          refine det_take (v := ?_) (i := 16) (fuel := 9) (by simp; rfl) (by kernel_rfl) (by kernel_rfl) (by kernel_rfl) (Or.inl ⟨by rfl, fun w' hS => Or.inl ⟨w', ?_, hS⟩⟩) ?_
          rotate_left
          · obtain ⟨-, c0, c1, c2, c3⟩ := HB.dec (t := 25) (g := w3.heap.size) (a := .bool n3) (b := .int .u64 a3) (c := .int .u64 b3) (d := .int .i64 o) hS (by simp)
            go_simp
            all_goals with_reducible rfl
          simp only [Act.put, List.setIfInBounds_toArray, List.set_cons_zero, List.set_cons_succ]
          refine det_take (v := ?_) (i := 17) (fuel := 8) (by simp; rfl) (by kernel_rfl) (by kernel_rfl) (by kernel_rfl) (Or.inl ⟨by rfl, fun w' hS => Or.inr ⟨21, #[.agg #[.bool n3, .int .u64 a3, .int .u64 b3, .int .i64 o]], w', ?_, ?_⟩⟩) ?_
          rotate_left
          · go_simp
            all_goals with_reducible rfl
          · exact (neg_v n3 a3 b3 o ζ n4 a4 b4 _ D3 D4 Sζ.out lo o9).mono fun e w2 ⟨_, hv, he, hb⟩ => ⟨by rw [he, hv], HB.below hS hb⟩
          simp only [Act.put, List.setIfInBounds_toArray, List.set_cons_zero, List.set_cons_succ]
          refine det_take (v := ?_) (i := 18) (fuel := 7) (by simp; rfl) (by kernel_rfl) (by kernel_rfl) (by kernel_rfl) (Or.inl ⟨by rfl, fun w' hS => Or.inl ⟨w', ?_, hS⟩⟩) ?_
          rotate_left
          · go_simp
            all_goals with_reducible rfl
          simp only [Act.put, List.setIfInBounds_toArray, List.set_cons_zero, List.set_cons_succ]
          refine det_take (v := ?_) (i := 19) (fuel := 6) (by simp; rfl) (by kernel_rfl) (by kernel_rfl) (by kernel_rfl) (Or.inl ⟨by rfl, fun w' hS => Or.inl ⟨w', ?_, hS⟩⟩) ?_
          rotate_left
          · go_simp
            all_goals with_reducible rfl
          simp only [Act.put, List.setIfInBounds_toArray, List.set_cons_zero, List.set_cons_succ]
          refine det_take (v := ?_) (i := 20) (fuel := 5) (by simp; rfl) (by kernel_rfl) (by kernel_rfl) (by kernel_rfl) (Or.inl ⟨by rfl, fun w' hS => Or.inl ⟨w', ?_, hS⟩⟩) ?_
          rotate_left
          · go_simp
            all_goals with_reducible rfl
          simp only [Act.put, List.setIfInBounds_toArray, List.set_cons_zero, List.set_cons_succ]
          refine det_take (v := ?_) (i := 21) (fuel := 4) (by simp; rfl) (by kernel_rfl) (by kernel_rfl) (by kernel_rfl) (Or.inl ⟨by rfl, fun w' hS => Or.inl ⟨w', ?_, hS⟩⟩) ?_
          rotate_left
          · obtain ⟨-, c0, c1, c2, c3⟩ := HB.dec (t := 25) (g := gm) (a := .bool n6) (b := .int .u64 a6) (c := .int .u64 b6) (d := .int .i64 o) hS (by simp)
            go_simp
            all_goals with_reducible rfl
          simp only [Act.put, List.setIfInBounds_toArray, List.set_cons_zero, List.set_cons_succ]
          refine det_take (v := ?_) (i := 22) (fuel := 3) (by simp; rfl) (by kernel_rfl) (by kernel_rfl) (by kernel_rfl) (Or.inl ⟨by rfl, fun w' hS => Or.inl ⟨w', ?_, hS⟩⟩) ?_
          rotate_left
          · obtain ⟨-, c0, c1, c2, c3⟩ := HB.dec (t := 25) (g := w5.heap.size) (a := .bool n5) (b := .int .u64 a5) (c := .int .u64 b5) (d := .int .i64 o) hS (by simp)
            go_simp
            all_goals with_reducible rfl
          simp only [Act.put, List.setIfInBounds_toArray, List.set_cons_zero, List.set_cons_succ]
          refine det_take (v := ?_) (i := 23) (fuel := 2) (by simp; rfl) (by kernel_rfl) (by kernel_rfl) (by kernel_rfl) (Or.inl ⟨by rfl, fun w' hS => Or.inr ⟨21, #[.agg #[.bool n5, .int .u64 a5, .int .u64 b5, .int .i64 o]], w', ?_, ?_⟩⟩) ?_
          rotate_left
          · go_simp
            all_goals with_reducible rfl
          · exact (neg_v n5 a5 b5 o ξ n6 a6 b6 _ D5 D6 Sξ.out lo o9).mono fun e w2 ⟨_, hv, he, hb⟩ => ⟨by rw [he, hv], HB.below hS hb⟩
          simp only [Act.put, List.setIfInBounds_toArray, List.set_cons_zero, List.set_cons_succ]
          refine det_take (v := ?_) (i := 24) (fuel := 1) (by simp; rfl) (by kernel_rfl) (by kernel_rfl) (by kernel_rfl) (Or.inl ⟨by rfl, fun w' hS => Or.inl ⟨w', ?_, hS⟩⟩) ?_
          rotate_left
          · go_simp
            all_goals with_reducible rfl
          simp only [Act.put, List.setIfInBounds_toArray, List.set_cons_zero, List.set_cons_succ]
          refine det_take (v := ?_) (i := 25) (fuel := 0) (by simp; rfl) (by kernel_rfl) (by kernel_rfl) (by kernel_rfl) (Or.inl ⟨by rfl, fun w' hS => Or.inl ⟨w', ?_, hS⟩⟩) ?_
          rotate_left
          · go_simp
            all_goals with_reducible rfl
          simp only [Act.put, List.setIfInBounds_toArray, List.set_cons_zero, List.set_cons_succ]
          refine det_done (by kernel_rfl) (fun w' hS => ?_) _
          clear V
          go_wp2
          go_roundw
          case rel => exact ⟨k + 1, by omega, by go_num, HB.sub hS (by simp)⟩
          case measure => simp [intOf]; omega
    · as_aux_lemma =>
        obtain rfl : k = 4 := by omega
        clear hk hk4
        obtain ⟨like, hlk⟩ : ∃ like : Int, (n1 = true ∧ like = 1) ∨ (n1 = false ∧ like = 0) := by cases n1 <;> simp
        have HL := Lib.hid hlk
        obtain ⟨N, hN⟩ : ∃ N : Nat, divN n1 x s 1 0 o 2 = N := ⟨_, rfl⟩
        have hNb : N ≤ 100000000000001 := by rw [← hN]; exact divN_le n1 x s 1 0 o 2 HM1.out
        have hN2 : divN n1 x s 1 0 o like = N := by rw [← hN]; exact round_floor n1 _ _ like hlk
        obtain ⟨ζ, hζ⟩ : ∃ ζ : Int, zOf n1 N = ζ := ⟨_, rfl⟩
        have hζb : ζ.natAbs ≤ 100000000000001 := by rw [← hζ, zOf_abs]; exact hNb
        obtain ⟨n3, a3, b3, D3⟩ := dec_ex ζ (by omega)
        have hlm : like = 0 ∨ like = 1 ∨ like = 2 ∨ like = 3 ∨ like = 4 := by omega
        have HLM := Lib.hid hlm
        have HNb := Lib.hid (show N < 1000000000000000000000000000000 by omega)
        have HN := Lib.hid hN
        have HN2 := Lib.hid hN2
        have Hζ := Lib.hid hζ
        have q3 := eqW2_yes (a := a3) (b := b3) (c := a3) (d := b3) ⟨rfl, rfl⟩
        clear hN hN2 hζ hNb hζb hlm
        obtain ⟨σ, hσ⟩ : ∃ σ, x.sign = σ := ⟨_, rfl⟩
        have hσl : (σ < 0 ∧ like = 1) ∨ (¬ σ < 0 ∧ like = 0) := by
          have h1 := D1.1
          rcases hlk with ⟨e, e2⟩ | ⟨e, e2⟩
          · rw [e] at h1
            have : x < 0 := by simpa using h1.symm
            left
            rw [← hσ, Int.sign_eq_neg_one_of_neg this]
            exact ⟨by decide, e2⟩
          · rw [e] at h1
            have : ¬ x < 0 := by simpa using h1.symm
            right
            refine ⟨?_, e2⟩
            rw [← hσ]
            rcases (show x = 0 ∨ 0 < x by omega) with h | h
            · rw [h]; decide
            · rw [Int.sign_eq_one_of_pos h]; decide
        have HS := Lib.hid hσ
        clear hσ hlk
        rcases hσl with ⟨hσ0, rfl⟩ | ⟨hσ0, rfl⟩
        · as_aux_lemma =>
            obtain ⟨g1, p10, p11, p12, p13⟩ := HB.dec (t := 25) (g := w1.heap.size) (a := .bool n1) (b := .int .u64 a1) (c := .int .u64 b1) (d := .int .i64 s) V (by simp)
            obtain ⟨g2, p20, p21, p22, p23⟩ := HB.dec (t := 25) (g := w2.heap.size) (a := .bool false) (b := .int .u64 a2) (c := .int .u64 b2) (d := .int .i64 t) V (by simp)
            go_wp2_with fail
            refine (sign_v n1 a1 b1 s x σ _ D1 (sm_30 Sx.out) ls s9 HS.out).mono ?_
            rintro e ws ⟨_, rfl, rfl, hb⟩
            replace V := V.below hb
            clear hb
            clear g1 p10 p11 p12 p13 g2 p20 p21 p22 p23
            obtain ⟨g1, p10, p11, p12, p13⟩ := HB.dec (t := 25) (g := w1.heap.size) (a := .bool n1) (b := .int .u64 a1) (c := .int .u64 b1) (d := .int .i64 s) V (by simp)
            obtain ⟨g2, p20, p21, p22, p23⟩ := HB.dec (t := 25) (g := w2.heap.size) (a := .bool false) (b := .int .u64 a2) (c := .int .u64 b2) (d := .int .i64 t) V (by simp)
            go_wp2_with fail
            refine (quant_v n1 a1 b1 s x o 2 n3 a3 b3 ζ _ D1 D3 (sm_30 Sx.out) ls s9 lo o9 (by decide) N HN.out HNb.out Hζ.out).mono ?_
            rintro e w3 ⟨_, rfl, rfl, hb⟩
            replace V := V.below hb
            clear hb
            clear g1 p10 p11 p12 p13 g2 p20 p21 p22 p23
            obtain ⟨g1, p10, p11, p12, p13⟩ := HB.dec (t := 25) (g := w1.heap.size) (a := .bool n1) (b := .int .u64 a1) (c := .int .u64 b1) (d := .int .i64 s) V (by simp)
            obtain ⟨g2, p20, p21, p22, p23⟩ := HB.dec (t := 25) (g := w2.heap.size) (a := .bool false) (b := .int .u64 a2) (c := .int .u64 b2) (d := .int .i64 t) V (by simp)
            replace V := V.push #[.bool n3, .int .u64 a3, .int .u64 b3, .int .i64 o] 25
            go_wp2_with fail
            refine (quant_v n1 a1 b1 s x o 1 n3 a3 b3 ζ _ D1 D3 (sm_30 Sx.out) ls s9 lo o9 (by decide) N HN2.out HNb.out Hζ.out).mono ?_
            rintro e w4 ⟨_, rfl, rfl, hb⟩
            replace V := V.below hb
            clear hb
            clear g1 p10 p11 p12 p13 g2 p20 p21 p22 p23
            obtain ⟨g1, p10, p11, p12, p13⟩ := HB.dec (t := 25) (g := w1.heap.size) (a := .bool n1) (b := .int .u64 a1) (c := .int .u64 b1) (d := .int .i64 s) V (by simp)
            obtain ⟨g2, p20, p21, p22, p23⟩ := HB.dec (t := 25) (g := w2.heap.size) (a := .bool false) (b := .int .u64 a2) (c := .int .u64 b2) (d := .int .i64 t) V (by simp)
            obtain ⟨g3, p30, p31, p32, p33⟩ := HB.dec (t := 25) (g := w3.heap.size) (a := .bool n3) (b := .int .u64 a3) (c := .int .u64 b3) (d := .int .i64 o) V (by simp)
            replace V := V.push #[.bool n3, .int .u64 a3, .int .u64 b3, .int .i64 o] 25
            rcases (show s + t ≤ o ∨ o < s + t by omega) with hl | hl
            · as_aux_lemma =>
                have Sxy := Lib.hid (show Sm (x * y) by have := Hxy.out; unfold Sm; omega)
                go_wp2_with fail
                refine (times_up n1 a1 b1 s x false a2 b2 t y o 2 _ D1 D2 Sx.out Sy.out ls lt s9 t9 lo o9 (by decide) hl Sxy.out).mono ?_
                rintro e w7 ⟨_, ⟨n7, a7, b7, D7, rfl⟩, rfl, hb⟩
                replace V := V.below hb
                clear hb
                clear g1 p10 p11 p12 p13 g2 p20 p21 p22 p23 g3 p30 p31 p32 p33
                obtain ⟨g1, p10, p11, p12, p13⟩ := HB.dec (t := 25) (g := w1.heap.size) (a := .bool n1) (b := .int .u64 a1) (c := .int .u64 b1) (d := .int .i64 s) V (by simp)
                obtain ⟨g2, p20, p21, p22, p23⟩ := HB.dec (t := 25) (g := w2.heap.size) (a := .bool false) (b := .int .u64 a2) (c := .int .u64 b2) (d := .int .i64 t) V (by simp)
                obtain ⟨g3, p30, p31, p32, p33⟩ := HB.dec (t := 25) (g := w3.heap.size) (a := .bool n3) (b := .int .u64 a3) (c := .int .u64 b3) (d := .int .i64 o) V (by simp)
                obtain ⟨g4, p40, p41, p42, p43⟩ := HB.dec (t := 25) (g := w4.heap.size) (a := .bool n3) (b := .int .u64 a3) (c := .int .u64 b3) (d := .int .i64 o) V (by simp)
                replace V := V.push #[.bool n7, .int .u64 a7, .int .u64 b7, .int .i64 o] 25
                go_wp2_with fail
                refine (times_up n1 a1 b1 s x false a2 b2 t y o 1 _ D1 D2 Sx.out Sy.out ls lt s9 t9 lo o9 (by decide) hl Sxy.out).mono ?_
                rintro e w8 ⟨_, ⟨n8, a8, b8, D8, rfl⟩, rfl, hb⟩
                obtain ⟨rfl, rfl, rfl⟩ : n7 = n8 ∧ a7 = a8 ∧ b7 = b8 := decIs_one D7 D8
                replace V := V.below hb
                clear hb
                clear g1 p10 p11 p12 p13 g2 p20 p21 p22 p23 g3 p30 p31 p32 p33 g4 p40 p41 p42 p43
                obtain ⟨g3, p30, p31, p32, p33⟩ := HB.dec (t := 25) (g := w3.heap.size) (a := .bool n3) (b := .int .u64 a3) (c := .int .u64 b3) (d := .int .i64 o) V (by simp)
                obtain ⟨g4, p40, p41, p42, p43⟩ := HB.dec (t := 25) (g := w4.heap.size) (a := .bool n3) (b := .int .u64 a3) (c := .int .u64 b3) (d := .int .i64 o) V (by simp)
                obtain ⟨g7, p70, p71, p72, p73⟩ := HB.dec (t := 25) (g := w7.heap.size) (a := .bool n7) (b := .int .u64 a7) (c := .int .u64 b7) (d := .int .i64 o) V (by simp)
                replace V := V.push #[.bool n7, .int .u64 a7, .int .u64 b7, .int .i64 o] 25
                have q7 := eqW2_yes (a := a7) (b := b7) (c := a7) (d := b7) ⟨rfl, rfl⟩
                go_wp2_with fail
                refine (qk_c _).mono ?_
                rintro e w9 ⟨_, rfl, rfl, hb⟩
                replace V := V.below hb
                clear hb
                clear g3 p30 p31 p32 p33 g4 p40 p41 p42 p43 g7 p70 p71 p72 p73
                obtain ⟨g3, p30, p31, p32, p33⟩ := HB.dec (t := 25) (g := w3.heap.size) (a := .bool n3) (b := .int .u64 a3) (c := .int .u64 b3) (d := .int .i64 o) V (by simp)
                obtain ⟨g4, p40, p41, p42, p43⟩ := HB.dec (t := 25) (g := w4.heap.size) (a := .bool n3) (b := .int .u64 a3) (c := .int .u64 b3) (d := .int .i64 o) V (by simp)
                obtain ⟨g7, p70, p71, p72, p73⟩ := HB.dec (t := 25) (g := w7.heap.size) (a := .bool n7) (b := .int .u64 a7) (c := .int .u64 b7) (d := .int .i64 o) V (by simp)
                obtain ⟨g8, p80, p81, p82, p83⟩ := HB.dec (t := 25) (g := w8.heap.size) (a := .bool n7) (b := .int .u64 a7) (c := .int .u64 b7) (d := .int .i64 o) V (by simp)
                have HB1 := Lib.hid V.1
                clear V
                go_wp2
                go_ret
                exact ⟨rfl, HB1.out⟩
            · as_aux_lemma =>
                have Sxy := Lib.hid (show Sm (x * y) by have := Hxy.out; unfold Sm; omega)
                obtain ⟨M, hM⟩ : ∃ M : Nat, roundN (n1 != false) (x.natAbs * y.natAbs) (10 ^ (s + t - o).toNat) 2 = M := ⟨_, rfl⟩
                have HMb := Lib.hid (show M < 1000000000000000000000000000000 by
                  rw [← hM]
                  refine Nat.lt_of_le_of_lt (rd_le _ _ _ _) ?_
                  have := Hxy.out
                  rw [Int.natAbs_mul] at this
                  omega)
                have HM2 := Lib.hid (show roundN (n1 != false) (x.natAbs * y.natAbs) (10 ^ (s + t - o).toNat) 1 = M by rw [← hM, neq_false]; exact round_floor n1 _ _ 1 (by have := HL.out; simpa using this))
                have HM := Lib.hid hM
                have hk9 : s + t - o ≤ 9 := by have := Hst.out; omega
                clear hM
                go_wp2_with fail
                refine (times_down n1 a1 b1 s x false a2 b2 t y o 2 _ D1 D2 Sx.out Sy.out ls lt s9 t9 lo o9 (by decide) hl M HM.out HMb.out hk9).mono ?_
                rintro e w7 ⟨_, ⟨n7, a7, b7, D7, rfl⟩, rfl, hb⟩
                replace V := V.below hb
                clear hb
                clear g1 p10 p11 p12 p13 g2 p20 p21 p22 p23 g3 p30 p31 p32 p33
                obtain ⟨g1, p10, p11, p12, p13⟩ := HB.dec (t := 25) (g := w1.heap.size) (a := .bool n1) (b := .int .u64 a1) (c := .int .u64 b1) (d := .int .i64 s) V (by simp)
                obtain ⟨g2, p20, p21, p22, p23⟩ := HB.dec (t := 25) (g := w2.heap.size) (a := .bool false) (b := .int .u64 a2) (c := .int .u64 b2) (d := .int .i64 t) V (by simp)
                obtain ⟨g3, p30, p31, p32, p33⟩ := HB.dec (t := 25) (g := w3.heap.size) (a := .bool n3) (b := .int .u64 a3) (c := .int .u64 b3) (d := .int .i64 o) V (by simp)
                obtain ⟨g4, p40, p41, p42, p43⟩ := HB.dec (t := 25) (g := w4.heap.size) (a := .bool n3) (b := .int .u64 a3) (c := .int .u64 b3) (d := .int .i64 o) V (by simp)
                replace V := V.push #[.bool n7, .int .u64 a7, .int .u64 b7, .int .i64 o] 25
                go_wp2_with fail
                refine (times_down n1 a1 b1 s x false a2 b2 t y o 1 _ D1 D2 Sx.out Sy.out ls lt s9 t9 lo o9 (by decide) hl M HM2.out HMb.out hk9).mono ?_
                rintro e w8 ⟨_, ⟨n8, a8, b8, D8, rfl⟩, rfl, hb⟩
                obtain ⟨rfl, rfl, rfl⟩ : n7 = n8 ∧ a7 = a8 ∧ b7 = b8 := decIs_one D7 D8
                replace V := V.below hb
                clear hb
                clear g1 p10 p11 p12 p13 g2 p20 p21 p22 p23 g3 p30 p31 p32 p33 g4 p40 p41 p42 p43
                obtain ⟨g3, p30, p31, p32, p33⟩ := HB.dec (t := 25) (g := w3.heap.size) (a := .bool n3) (b := .int .u64 a3) (c := .int .u64 b3) (d := .int .i64 o) V (by simp)
                obtain ⟨g4, p40, p41, p42, p43⟩ := HB.dec (t := 25) (g := w4.heap.size) (a := .bool n3) (b := .int .u64 a3) (c := .int .u64 b3) (d := .int .i64 o) V (by simp)
                obtain ⟨g7, p70, p71, p72, p73⟩ := HB.dec (t := 25) (g := w7.heap.size) (a := .bool n7) (b := .int .u64 a7) (c := .int .u64 b7) (d := .int .i64 o) V (by simp)
                replace V := V.push #[.bool n7, .int .u64 a7, .int .u64 b7, .int .i64 o] 25
                have q7 := eqW2_yes (a := a7) (b := b7) (c := a7) (d := b7) ⟨rfl, rfl⟩
                go_wp2_with fail
                refine (qk_c _).mono ?_
                rintro e w9 ⟨_, rfl, rfl, hb⟩
                replace V := V.below hb
                clear hb
                clear g3 p30 p31 p32 p33 g4 p40 p41 p42 p43 g7 p70 p71 p72 p73
                obtain ⟨g3, p30, p31, p32, p33⟩ := HB.dec (t := 25) (g := w3.heap.size) (a := .bool n3) (b := .int .u64 a3) (c := .int .u64 b3) (d := .int .i64 o) V (by simp)
                obtain ⟨g4, p40, p41, p42, p43⟩ := HB.dec (t := 25) (g := w4.heap.size) (a := .bool n3) (b := .int .u64 a3) (c := .int .u64 b3) (d := .int .i64 o) V (by simp)
                obtain ⟨g7, p70, p71, p72, p73⟩ := HB.dec (t := 25) (g := w7.heap.size) (a := .bool n7) (b := .int .u64 a7) (c := .int .u64 b7) (d := .int .i64 o) V (by simp)
                obtain ⟨g8, p80, p81, p82, p83⟩ := HB.dec (t := 25) (g := w8.heap.size) (a := .bool n7) (b := .int .u64 a7) (c := .int .u64 b7) (d := .int .i64 o) V (by simp)
                have HB1 := Lib.hid V.1
                clear V
                go_wp2
                go_ret
                exact ⟨rfl, HB1.out⟩
        · as_aux_lemma =>
            obtain ⟨g1, p10, p11, p12, p13⟩ := HB.dec (t := 25) (g := w1.heap.size) (a := .bool n1) (b := .int .u64 a1) (c := .int .u64 b1) (d := .int .i64 s) V (by simp)
            obtain ⟨g2, p20, p21, p22, p23⟩ := HB.dec (t := 25) (g := w2.heap.size) (a := .bool false) (b := .int .u64 a2) (c := .int .u64 b2) (d := .int .i64 t) V (by simp)
            go_wp2_with fail
            refine (sign_v n1 a1 b1 s x σ _ D1 (sm_30 Sx.out) ls s9 HS.out).mono ?_
            rintro e ws ⟨_, rfl, rfl, hb⟩
            replace V := V.below hb
            clear hb
            clear g1 p10 p11 p12 p13 g2 p20 p21 p22 p23
            obtain ⟨g1, p10, p11, p12, p13⟩ := HB.dec (t := 25) (g := w1.heap.size) (a := .bool n1) (b := .int .u64 a1) (c := .int .u64 b1) (d := .int .i64 s) V (by simp)
            obtain ⟨g2, p20, p21, p22, p23⟩ := HB.dec (t := 25) (g := w2.heap.size) (a := .bool false) (b := .int .u64 a2) (c := .int .u64 b2) (d := .int .i64 t) V (by simp)
            go_wp2_with fail
            refine (quant_v n1 a1 b1 s x o 2 n3 a3 b3 ζ _ D1 D3 (sm_30 Sx.out) ls s9 lo o9 (by decide) N HN.out HNb.out Hζ.out).mono ?_
            rintro e w3 ⟨_, rfl, rfl, hb⟩
            replace V := V.below hb
            clear hb
            clear g1 p10 p11 p12 p13 g2 p20 p21 p22 p23
            obtain ⟨g1, p10, p11, p12, p13⟩ := HB.dec (t := 25) (g := w1.heap.size) (a := .bool n1) (b := .int .u64 a1) (c := .int .u64 b1) (d := .int .i64 s) V (by simp)
            obtain ⟨g2, p20, p21, p22, p23⟩ := HB.dec (t := 25) (g := w2.heap.size) (a := .bool false) (b := .int .u64 a2) (c := .int .u64 b2) (d := .int .i64 t) V (by simp)
            replace V := V.push #[.bool n3, .int .u64 a3, .int .u64 b3, .int .i64 o] 25
            go_wp2_with fail
            refine (quant_v n1 a1 b1 s x o 0 n3 a3 b3 ζ _ D1 D3 (sm_30 Sx.out) ls s9 lo o9 (by decide) N HN2.out HNb.out Hζ.out).mono ?_
            rintro e w4 ⟨_, rfl, rfl, hb⟩
            replace V := V.below hb
            clear hb
            clear g1 p10 p11 p12 p13 g2 p20 p21 p22 p23
            obtain ⟨g1, p10, p11, p12, p13⟩ := HB.dec (t := 25) (g := w1.heap.size) (a := .bool n1) (b := .int .u64 a1) (c := .int .u64 b1) (d := .int .i64 s) V (by simp)
            obtain ⟨g2, p20, p21, p22, p23⟩ := HB.dec (t := 25) (g := w2.heap.size) (a := .bool false) (b := .int .u64 a2) (c := .int .u64 b2) (d := .int .i64 t) V (by simp)
            obtain ⟨g3, p30, p31, p32, p33⟩ := HB.dec (t := 25) (g := w3.heap.size) (a := .bool n3) (b := .int .u64 a3) (c := .int .u64 b3) (d := .int .i64 o) V (by simp)
            replace V := V.push #[.bool n3, .int .u64 a3, .int .u64 b3, .int .i64 o] 25
            rcases (show s + t ≤ o ∨ o < s + t by omega) with hl | hl
            · as_aux_lemma =>
                have Sxy := Lib.hid (show Sm (x * y) by have := Hxy.out; unfold Sm; omega)
                go_wp2_with fail
                refine (times_up n1 a1 b1 s x false a2 b2 t y o 2 _ D1 D2 Sx.out Sy.out ls lt s9 t9 lo o9 (by decide) hl Sxy.out).mono ?_
                rintro e w7 ⟨_, ⟨n7, a7, b7, D7, rfl⟩, rfl, hb⟩
                replace V := V.below hb
                clear hb
                clear g1 p10 p11 p12 p13 g2 p20 p21 p22 p23 g3 p30 p31 p32 p33
                obtain ⟨g1, p10, p11, p12, p13⟩ := HB.dec (t := 25) (g := w1.heap.size) (a := .bool n1) (b := .int .u64 a1) (c := .int .u64 b1) (d := .int .i64 s) V (by simp)
                obtain ⟨g2, p20, p21, p22, p23⟩ := HB.dec (t := 25) (g := w2.heap.size) (a := .bool false) (b := .int .u64 a2) (c := .int .u64 b2) (d := .int .i64 t) V (by simp)
                obtain ⟨g3, p30, p31, p32, p33⟩ := HB.dec (t := 25) (g := w3.heap.size) (a := .bool n3) (b := .int .u64 a3) (c := .int .u64 b3) (d := .int .i64 o) V (by simp)
                obtain ⟨g4, p40, p41, p42, p43⟩ := HB.dec (t := 25) (g := w4.heap.size) (a := .bool n3) (b := .int .u64 a3) (c := .int .u64 b3) (d := .int .i64 o) V (by simp)
                replace V := V.push #[.bool n7, .int .u64 a7, .int .u64 b7, .int .i64 o] 25
                go_wp2_with fail
                refine (times_up n1 a1 b1 s x false a2 b2 t y o 0 _ D1 D2 Sx.out Sy.out ls lt s9 t9 lo o9 (by decide) hl Sxy.out).mono ?_
                rintro e w8 ⟨_, ⟨n8, a8, b8, D8, rfl⟩, rfl, hb⟩
                obtain ⟨rfl, rfl, rfl⟩ : n7 = n8 ∧ a7 = a8 ∧ b7 = b8 := decIs_one D7 D8
                replace V := V.below hb
                clear hb
                clear g1 p10 p11 p12 p13 g2 p20 p21 p22 p23 g3 p30 p31 p32 p33 g4 p40 p41 p42 p43
                obtain ⟨g3, p30, p31, p32, p33⟩ := HB.dec (t := 25) (g := w3.heap.size) (a := .bool n3) (b := .int .u64 a3) (c := .int .u64 b3) (d := .int .i64 o) V (by simp)
                obtain ⟨g4, p40, p41, p42, p43⟩ := HB.dec (t := 25) (g := w4.heap.size) (a := .bool n3) (b := .int .u64 a3) (c := .int .u64 b3) (d := .int .i64 o) V (by simp)
                obtain ⟨g7, p70, p71, p72, p73⟩ := HB.dec (t := 25) (g := w7.heap.size) (a := .bool n7) (b := .int .u64 a7) (c := .int .u64 b7) (d := .int .i64 o) V (by simp)
                replace V := V.push #[.bool n7, .int .u64 a7, .int .u64 b7, .int .i64 o] 25
                have q7 := eqW2_yes (a := a7) (b := b7) (c := a7) (d := b7) ⟨rfl, rfl⟩
                go_wp2_with fail
                refine (qk_c _).mono ?_
                rintro e w9 ⟨_, rfl, rfl, hb⟩
                replace V := V.below hb
                clear hb
                clear g3 p30 p31 p32 p33 g4 p40 p41 p42 p43 g7 p70 p71 p72 p73
                obtain ⟨g3, p30, p31, p32, p33⟩ := HB.dec (t := 25) (g := w3.heap.size) (a := .bool n3) (b := .int .u64 a3) (c := .int .u64 b3) (d := .int .i64 o) V (by simp)
                obtain ⟨g4, p40, p41, p42, p43⟩ := HB.dec (t := 25) (g := w4.heap.size) (a := .bool n3) (b := .int .u64 a3) (c := .int .u64 b3) (d := .int .i64 o) V (by simp)
                obtain ⟨g7, p70, p71, p72, p73⟩ := HB.dec (t := 25) (g := w7.heap.size) (a := .bool n7) (b := .int .u64 a7) (c := .int .u64 b7) (d := .int .i64 o) V (by simp)
                obtain ⟨g8, p80, p81, p82, p83⟩ := HB.dec (t := 25) (g := w8.heap.size) (a := .bool n7) (b := .int .u64 a7) (c := .int .u64 b7) (d := .int .i64 o) V (by simp)
                have HB1 := Lib.hid V.1
                clear V
                go_wp2
                go_ret
                exact ⟨rfl, HB1.out⟩
            · as_aux_lemma =>
                have Sxy := Lib.hid (show Sm (x * y) by have := Hxy.out; unfold Sm; omega)
                obtain ⟨M, hM⟩ : ∃ M : Nat, roundN (n1 != false) (x.natAbs * y.natAbs) (10 ^ (s + t - o).toNat) 2 = M := ⟨_, rfl⟩
                have HMb := Lib.hid (show M < 1000000000000000000000000000000 by
                  rw [← hM]
                  refine Nat.lt_of_le_of_lt (rd_le _ _ _ _) ?_
                  have := Hxy.out
                  rw [Int.natAbs_mul] at this
                  omega)
                have HM2 := Lib.hid (show roundN (n1 != false) (x.natAbs * y.natAbs) (10 ^ (s + t - o).toNat) 0 = M by rw [← hM, neq_false]; exact round_floor n1 _ _ 0 (by have := HL.out; simpa using this))
                have HM := Lib.hid hM
                have hk9 : s + t - o ≤ 9 := by have := Hst.out; omega
                clear hM
                go_wp2_with fail
                refine (times_down n1 a1 b1 s x false a2 b2 t y o 2 _ D1 D2 Sx.out Sy.out ls lt s9 t9 lo o9 (by decide) hl M HM.out HMb.out hk9).mono ?_
                rintro e w7 ⟨_, ⟨n7, a7, b7, D7, rfl⟩, rfl, hb⟩
                replace V := V.below hb
                clear hb
                clear g1 p10 p11 p12 p13 g2 p20 p21 p22 p23 g3 p30 p31 p32 p33
                obtain ⟨g1, p10, p11, p12, p13⟩ := HB.dec (t := 25) (g := w1.heap.size) (a := .bool n1) (b := .int .u64 a1) (c := .int .u64 b1) (d := .int .i64 s) V (by simp)
                obtain ⟨g2, p20, p21, p22, p23⟩ := HB.dec (t := 25) (g := w2.heap.size) (a := .bool false) (b := .int .u64 a2) (c := .int .u64 b2) (d := .int .i64 t) V (by simp)
                obtain ⟨g3, p30, p31, p32, p33⟩ := HB.dec (t := 25) (g := w3.heap.size) (a := .bool n3) (b := .int .u64 a3) (c := .int .u64 b3) (d := .int .i64 o) V (by simp)
                obtain ⟨g4, p40, p41, p42, p43⟩ := HB.dec (t := 25) (g := w4.heap.size) (a := .bool n3) (b := .int .u64 a3) (c := .int .u64 b3) (d := .int .i64 o) V (by simp)
                replace V := V.push #[.bool n7, .int .u64 a7, .int .u64 b7, .int .i64 o] 25
                go_wp2_with fail
                refine (times_down n1 a1 b1 s x false a2 b2 t y o 0 _ D1 D2 Sx.out Sy.out ls lt s9 t9 lo o9 (by decide) hl M HM2.out HMb.out hk9).mono ?_
                rintro e w8 ⟨_, ⟨n8, a8, b8, D8, rfl⟩, rfl, hb⟩
                obtain ⟨rfl, rfl, rfl⟩ : n7 = n8 ∧ a7 = a8 ∧ b7 = b8 := decIs_one D7 D8
                replace V := V.below hb
                clear hb
                clear g1 p10 p11 p12 p13 g2 p20 p21 p22 p23 g3 p30 p31 p32 p33 g4 p40 p41 p42 p43
                obtain ⟨g3, p30, p31, p32, p33⟩ := HB.dec (t := 25) (g := w3.heap.size) (a := .bool n3) (b := .int .u64 a3) (c := .int .u64 b3) (d := .int .i64 o) V (by simp)
                obtain ⟨g4, p40, p41, p42, p43⟩ := HB.dec (t := 25) (g := w4.heap.size) (a := .bool n3) (b := .int .u64 a3) (c := .int .u64 b3) (d := .int .i64 o) V (by simp)
                obtain ⟨g7, p70, p71, p72, p73⟩ := HB.dec (t := 25) (g := w7.heap.size) (a := .bool n7) (b := .int .u64 a7) (c := .int .u64 b7) (d := .int .i64 o) V (by simp)
                replace V := V.push #[.bool n7, .int .u64 a7, .int .u64 b7, .int .i64 o] 25
                have q7 := eqW2_yes (a := a7) (b := b7) (c := a7) (d := b7) ⟨rfl, rfl⟩
                go_wp2_with fail
                refine (qk_c _).mono ?_
                rintro e w9 ⟨_, rfl, rfl, hb⟩
                replace V := V.below hb
                clear hb
                clear g3 p30 p31 p32 p33 g4 p40 p41 p42 p43 g7 p70 p71 p72 p73
                obtain ⟨g3, p30, p31, p32, p33⟩ := HB.dec (t := 25) (g := w3.heap.size) (a := .bool n3) (b := .int .u64 a3) (c := .int .u64 b3) (d := .int .i64 o) V (by simp)
                obtain ⟨g4, p40, p41, p42, p43⟩ := HB.dec (t := 25) (g := w4.heap.size) (a := .bool n3) (b := .int .u64 a3) (c := .int .u64 b3) (d := .int .i64 o) V (by simp)
                obtain ⟨g7, p70, p71, p72, p73⟩ := HB.dec (t := 25) (g := w7.heap.size) (a := .bool n7) (b := .int .u64 a7) (c := .int .u64 b7) (d := .int .i64 o) V (by simp)
                obtain ⟨g8, p80, p81, p82, p83⟩ := HB.dec (t := 25) (g := w8.heap.size) (a := .bool n7) (b := .int .u64 a7) (c := .int .u64 b7) (d := .int .i64 o) V (by simp)
                have HB1 := Lib.hid V.1
                clear V
                go_wp2
                go_ret
                exact ⟨rfl, HB1.out⟩

set_option maxRecDepth 100000 in
theorem lifted (os : Os) (started : os.Started) (H : Type) (enc : TypeId × Value → H) :
    ReturnsInHanded {} Try.checked os 6 .any (Rows.quantSignsSpec.pre6 enc Try.prog Try.f6 Rows.quantSignsRow.domain false) (Rows.quantSignsSpec.post enc Try.prog Try.f6 false true false false) := by
  refine returnsInHanded_of_change (C := Try.checked) own started (by kernel_rfl) Try.func6
    (ChangeSpec.witness6 (enc := enc) (C := Try.checked) false ⟨#[], #[.int .i64 0, .int .i64 0, .int .i64 0, .int .i64 0, .int .i64 0], []⟩ 8 (by kernel_rfl) (by kernel_rfl) (by kernel_rfl) (by kernel_rfl)) ?_
  intro W base args ds gs before hval0 hW hcnd _
  have hval : ∀ (j : Nat) t v, Try.f6.params[j]? = some t → args[j]? = some v → Value.okWide Try.prog W .any base t v := hval0
  have hW' := hW
  obtain ⟨p, q, hA0, hV, rfl, hfz, hnd⟩ := hW
  have hA : DataW.TrodAll enc Try.prog W 0 (fun _ => true) true Try.f6.params.toList args.toList ds p := hA0
  rw [Try.params6] at hA hval
  obtain ⟨v0, vs0, d0, ds0, p0, q0, hargs, rfl, rfl, h0, r0⟩ := trodAll_cons hA
  obtain ⟨v1, vs1, d1, ds1, p1, q1, rfl, rfl, rfl, h1, r1⟩ := trodAll_cons r0
  obtain ⟨v2, vs2, d2, ds2, p2, q2, rfl, rfl, rfl, h2, r2⟩ := trodAll_cons r1
  obtain ⟨v3, vs3, d3, ds3, p3, q3, rfl, rfl, rfl, h3, r3⟩ := trodAll_cons r2
  obtain ⟨v4, vs4, d4, ds4, p4, q4, rfl, rfl, rfl, h4, r4⟩ := trodAll_cons r3
  obtain ⟨rfl, rfl, rfl⟩ := trodAll_nil r4
  obtain rfl : args = #[v0, v1, v2, v3, v4] := by cases args; simp_all
  obtain ⟨rfl, rfl⟩ := trodVars_none hV
  obtain ⟨a0, rfl, rfl, rfl, w0⟩ := open_int Try.underlying3 (hval 0 3 v0 rfl rfl) h0
  obtain ⟨a1, rfl, rfl, rfl, w1⟩ := open_int Try.underlying3 (hval 1 3 v1 rfl rfl) h1
  obtain ⟨a2, rfl, rfl, rfl, w2⟩ := open_int Try.underlying3 (hval 2 3 v2 rfl rfl) h2
  obtain ⟨a3, rfl, rfl, rfl, w3⟩ := open_int Try.underlying3 (hval 3 3 v3 rfl rfl) h3
  obtain ⟨a4, rfl, rfl, rfl, w4⟩ := open_int Try.underlying3 (hval 4 3 v4 rfl rfl) h4
  clear hA0 hval0
  simp only [List.append_nil] at hW'
  refine (walk a0 a1 a2 a3 a4 w0 w1 w2 w3 w4 W).mono fun e W' ⟨he, hg⟩ => ?_
  subst he
  exact ⟨_, rfl, post_bel (pa := []) (pv := []) hW' (fun _ _ _ => (trodAll_cons_mk (shut_bool Try.underlying4 _) trodAll_mk0)) (fun sp _ => (trodAll_cons_mk (shut_int Try.underlying3 w0) (trodAll_cons_mk (shut_int Try.underlying3 w1) (trodAll_cons_mk (shut_int Try.underlying3 w2) (trodAll_cons_mk (shut_int Try.underlying3 w3) (trodAll_cons_mk (shut_int Try.underlying3 w4) trodAll_mk0)))))) (fun _ _ => rfl) rfl
    hg (ok_one (by kernel_rfl) rfl (okWide_bool_mk Try.underlying4 _))⟩

theorem over : Rows.quantSignsRow.holds Try.pinned (OpenSpec.ofChange Rows.quantSignsSpec) :=
  OpenClaim.holds_of_wide 6 Try.f6 rfl rfl rfl rfl rfl rfl rfl ⟨rfl, rfl, rfl, rfl, rfl⟩ rfl rfl rfl rfl rfl (by kernel_rfl) Try.func6 (by kernel_rfl)
    (of_decide_eq_true (by kernel_rfl)) (by unfold Func.isWrapper; first | (rw [if_pos (by decide +kernel)]; kernel_rfl) | (rw [if_neg (by decide +kernel)]; exact ⟨rfl, rfl⟩))
    (fun os started H enc _ => lifted os started H enc)

/-- The given statement. -/
theorem proved : Rows.QuantSignsSaid :=
  over
#print axioms proved
end Go.Proofs.Ytfppkhbbcnplfaa.quantSigns

/- For every input 'QuantUnits' returns true and leaves its arguments as they were. No condition. -/
import Derived.Test.YtnefckiaojhcdaaRows
import Derived.WalkKit
import Derived.ProofKit
import Derived.OpenShut
import Derived.Test.YtnefckiaojhcdaaUnitsA
import Derived.Test.YtnefckiaojhcdaaHold
import Derived.Test.YtnefckiaojhcdaaPost
namespace Go.Proofs.Ytnefckiaojhcdaa.quantUnits
open Go.ChangeShapes Go.WideShapes Go.ChangeAt Go.RowKit
set_option linter.unusedVariables false

theorem own : ownKnob Try.prog.godebug = none := by kernel_rfl

theorem zOf_sgn {n : Bool} {K : Int} (h : n = decide (K < 0)) : zOf n K.natAbs = K := by
  subst h
  unfold zOf
  by_cases h : K < 0
  · simp [h]; omega
  · simp [h]; omega
theorem neq_false (n : Bool) : (n != false) = n := by cases n <;> rfl
theorem mul_neg_iff {K y : Int} (hy : 0 < y) : K * y < 0 ↔ K < 0 := by
  constructor
  · intro h
    rcases Int.lt_or_le K 0 with h' | h'
    · exact h'
    · have := Int.mul_nonneg h' (Int.le_of_lt hy); omega
  · intro h; exact Int.mul_neg_of_neg_of_pos h hy
theorem cmpZ_not {a b : Int} (h : a ≤ b) : ¬ 0 < cmpZ a b := by
  rcases cmpZ_cases a b with ⟨_, e⟩ | ⟨_, e⟩ | ⟨_, e⟩ <;> omega
theorem pow2_le {k : Nat} (h : k ≤ 2) : 10 ^ k ≤ 100 := Nat.pow_le_pow_right (n := 10) (by decide) h
theorem pow4_le {k : Nat} (h : k ≤ 4) : 10 ^ k ≤ 10000 := Nat.pow_le_pow_right (n := 10) (by decide) h
theorem mul_le2 {a b M N : Nat} (ha : a ≤ M) (hb : b ≤ N) : a * b ≤ M * N := Nat.mul_le_mul ha hb
theorem mx_two (s t : Int) : ∃ r : Int, ((s < t ∧ t = r) ∨ (t ≤ s ∧ s = r)) ∧ ((t < s ∧ s = r) ∨ (s ≤ t ∧ t = r)) ∧ s ≤ r ∧ t ≤ r ∧ (r = s ∨ r = t) := by
  rcases Int.lt_or_le s t with h | h
  · exact ⟨t, by omega, by omega, by omega, by omega, by omega⟩
  · exact ⟨s, by omega, by omega, by omega, by omega, by omega⟩
theorem usMk {w0 w : World} {gl gd ga : Nat} {n11 : Bool} {a11 b11 a8 b8 : Int} {n1 : Bool} {a1 b1 s : Int} (h : HB w0 [(gl, 25, #[.bool n11, .int .u64 a11, .int .u64 b11, .int .i64 4]), (gd, 25, #[.bool false, .int .u64 a8, .int .u64 b8, .int .i64 1]), (ga, 25, #[.bool n1, .int .u64 a1, .int .u64 b1, .int .i64 s])] w) : HB w0 [(gl, 25, #[.bool n11, .int .u64 a11, .int .u64 b11, .int .i64 4]), (gd, 25, #[.bool false, .int .u64 a8, .int .u64 b8, .int .i64 1]), (ga, 25, #[.bool n1, .int .u64 a1, .int .u64 b1, .int .i64 s])] w ∧ (w.cell? ⟨gd, 0, none⟩ = some (.bool false) ∧ w.cell? ⟨gd, 1, none⟩ = some (.int .u64 a8) ∧ w.cell? ⟨gd, 2, none⟩ = some (.int .u64 b8) ∧ w.cell? ⟨gd, 3, none⟩ = some (.int .i64 1)) :=
  ⟨h, (HB.dec (t := 25) h (by simp)).2⟩
set_option maxRecDepth 100000 in
set_option maxHeartbeats 12800000 in
theorem walk (pn ps pu pb pm pd : Int) (_ : (Lit.int .i64 pn).wf = true) (_ : (Lit.int .i64 ps).wf = true) (_ : (Lit.int .i64 pu).wf = true) (_ : (Lit.int .i64 pb).wf = true) (_ : (Lit.int .i64 pm).wf = true) (_ : (Lit.int .i64 pd).wf = true) (w : World) : Calls Try.prog 4 #[.int .i64 pn, .int .i64 ps, .int .i64 pu, .int .i64 pb, .int .i64 pm, .int .i64 pd] w fun e w' => e = .returned (.bool true) ∧ Below w.heap.size w w' := by
  go_enter Try.func4, Try.ntmps4
  have V := HB.start (Below.refl w.heap.size w)
  go_wp2_with fail
  refine (pick_c _ 20000001 _ (by omega) (by omega)).mono ?_
  rintro e w' ⟨_, ⟨v1, ⟨lo1, hi1⟩, rfl⟩, rfl, rfl⟩
  obtain ⟨x, ex⟩ : ∃ x : Int, v1 - 10000000 = x := ⟨_, rfl⟩
  have hx : x.natAbs ≤ 10000000 := by omega
  go_wp2_with fail
  refine (pick_c _ 4 _ (by omega) (by omega)).mono ?_
  rintro e w' ⟨_, ⟨s, ⟨ls, hs⟩, rfl⟩, rfl, rfl⟩
  go_wp2_with fail
  refine (refOf_c x s _ (by omega) (by omega) (by omega) (by omega)).mono ?_
  rintro e w1 ⟨_, ⟨n1, a1, b1, D1, rfl⟩, rfl, hb⟩
  clear lo1 hi1 ex
  replace V := V.below hb
  clear hb
  replace V := V.push #[.bool n1, .int .u64 a1, .int .u64 b1, .int .i64 s] 25
  go_wp2_with fail
  refine (pick_c _ 5000 _ (by omega) (by omega)).mono ?_
  rintro e w' ⟨_, ⟨v2, ⟨lo2, hi2⟩, rfl⟩, rfl, rfl⟩
  obtain ⟨y, ey⟩ : ∃ y : Int, 1 + v2 = y := ⟨_, rfl⟩
  have hy0 : 0 < y := by omega
  have hy5 : y ≤ 5000 := by omega
  go_wp2_with fail
  refine (pick_c _ 3 _ (by omega) (by omega)).mono ?_
  rintro e w' ⟨_, ⟨t, ⟨lt, ht⟩, rfl⟩, rfl, rfl⟩
  go_wp2_with fail
  refine (refOf_c y t _ (by omega) (by omega) (by omega) (by omega)).mono ?_
  rintro e w2 ⟨_, ⟨n2, a2, b2, D2, rfl⟩, rfl, hb⟩
  clear lo2 hi2 ey
  obtain rfl : n2 = false := by rw [D2.1]; exact decide_eq_false (by omega)
  replace V := V.below hb
  clear hb
  obtain ⟨g1, p10, p11, p12, p13⟩ := HB.dec (t := 25) (g := w1.heap.size) (a := .bool n1) (b := .int .u64 a1) (c := .int .u64 b1) (d := .int .i64 s) V (by simp)
  replace V := V.push #[.bool false, .int .u64 a2, .int .u64 b2, .int .i64 t] 25
  go_wp2_with fail
  refine (pick_c _ 2 _ (by omega) (by omega)).mono ?_
  rintro e w' ⟨_, ⟨v3, ⟨lo3, hi3⟩, rfl⟩, rfl, rfl⟩
  obtain ⟨m, em⟩ : ∃ m : Int, 3 + v3 = m := ⟨_, rfl⟩
  have hm3 : 3 ≤ m := by omega
  have hm4 : m ≤ 4 := by omega
  clear lo3 hi3
  have Hm := Lib.hid (show m = 0 ∨ m = 1 ∨ m = 2 ∨ m = 3 ∨ m = 4 by omega)
  obtain ⟨r, hr, hr2, sr, tr, rst⟩ := mx_two s t
  have hq := neq_false n1
  obtain ⟨N, hN⟩ : ∃ N : Nat, divN (n1 != false) x s y t 0 m = N := ⟨_, rfl⟩
  have hNb : N ≤ 1000000001 := by
    rw [← hN]
    unfold divN
    refine Nat.le_trans (rd_le _ _ _ _) ?_
    have := mul_le2 hx (pow2_le (k := (0 + t - s).toNat) (by omega))
    omega
  obtain ⟨K, hK⟩ : ∃ K : Int, zOf (n1 != false) N = K := ⟨_, rfl⟩
  have hKb : K.natAbs ≤ 1000000001 := by rw [← hK, zOf_abs]; exact hNb
  obtain ⟨β, hβ⟩ : ∃ β : Int, K * y = β := ⟨_, rfl⟩
  have hβb : β.natAbs ≤ 5000000005000 := by rw [← hβ, Int.natAbs_mul]; have := mul_le2 hKb (show y.natAbs ≤ 5000 by omega); omega
  obtain ⟨δ, hδ⟩ : ∃ δ : Int, zAt β t r - zAt x s r = δ := ⟨_, rfl⟩
  have hnear := units_near (n := n1) (x := x) (s := s) (y := y) (t := t) (r := r) (m := m) (β := β) (δ := δ) (N := N) D1.1 hy0 hr hm3 hm4 (by rw [← hN, hq]) (by rw [hq] at hK; rw [hK]; exact hβ) hδ
  have hUb : (zAt y t r).natAbs ≤ 5000000 := by rw [zAt_abs]; have := mul_le2 (show y.natAbs ≤ 5000 by omega) (pow4_le (k := (r - t).toNat) (by omega)); have h3 : 10 ^ (r - t).toNat ≤ 1000 := Nat.pow_le_pow_right (n := 10) (by decide) (show (r - t).toNat ≤ 3 by omega); have := mul_le2 (show y.natAbs ≤ 5000 by omega) h3; omega
  have hDb : δ.natAbs < 5000000 := by have := hnear.2.1; omega
  have Sx := Lib.hid (show Sm x by unfold Sm; omega)
  have Sy := Lib.hid (show Sm y by unfold Sm; omega)
  have SK := Lib.hid (show Sm K by unfold Sm; omega)
  have Sβ := Lib.hid (show Sm β by unfold Sm; omega)
  have Sδ := Lib.hid (show Sm δ by unfold Sm; omega)
  have SE := Lib.hid (show Sm ((δ.natAbs : Nat) : Int) by unfold Sm; omega)
  have S2E := Lib.hid (show Sm (((δ.natAbs : Nat) : Int) + ((δ.natAbs : Nat) : Int)) by unfold Sm; omega)
  have s9 : s ≤ 9 := by omega
  have t9 : t ≤ 9 := by omega
  have lr : 0 ≤ r := by omega
  have r9 : r ≤ 9 := by omega
  have HNy := Lib.hid (show N * y.natAbs < 1000000000000000000000000000000 by have := mul_le2 hNb (show y.natAbs ≤ 5000 by omega); omega)
  have HKy := Lib.hid (show K.natAbs * y.natAbs < 1000000000000000000000000000000 by have := mul_le2 hKb (show y.natAbs ≤ 5000 by omega); omega)
  have HKN := Lib.hid (show K.natAbs < 1000000000000000000000000000000 by omega)
  have hc1 : cmpZ (zAt β t t) (zAt β t t) = 0 := cmpZ_self _
  obtain ⟨c2, hc2⟩ : ∃ c2, cmpZ (zAt (((δ.natAbs : Nat) : Int) + ((δ.natAbs : Nat) : Int)) r r) (zAt y t r) = c2 := ⟨_, rfl⟩
  have hc20 : ¬ 0 < c2 := by rw [← hc2, zAt_self]; exact cmpZ_not (by have := hnear.1; have := hnear.2.2; omega)
  have HN := Lib.hid hN
  have HK := Lib.hid hK
  have HBe := Lib.hid hβ
  have HDe := Lib.hid hδ
  have HC1 := Lib.hid hc1
  have HC2 := Lib.hid hc2
  have HC20 := Lib.hid hc20
  have HR := Lib.hid hr
  have HR2 := Lib.hid hr2
  have Hx := Lib.hid hx
  have Hs3 := Lib.hid (show s ≤ 3 by omega)
  clear hN hK hβ hδ hnear hUb hDb hc1 hc2 hc20 hr hr2 hKb hNb hβb rst hq hx hy5
  go_wp2_with fail
  refine (unit_q n1 a1 b1 s x false a2 b2 t y m _ D1 D2 Sx.out Sy.out hy0 ls lt s9 t9 Hm.out N HN.out HNy.out).mono ?_
  rintro e w3 ⟨_, ⟨n3, a3, b3, D3, rfl⟩, rfl, hb⟩
  rw [HK.out, HBe.out] at D3
  replace V := V.below hb
  clear hb
  clear g1 p10 p11 p12 p13
  obtain ⟨g2, p20, p21, p22, p23⟩ := HB.dec (t := 25) (g := w2.heap.size) (a := .bool false) (b := .int .u64 a2) (c := .int .u64 b2) (d := .int .i64 t) V (by simp)
  obtain ⟨g1, p10, p11, p12, p13⟩ := HB.dec (t := 25) (g := w1.heap.size) (a := .bool n1) (b := .int .u64 a1) (c := .int .u64 b1) (d := .int .i64 s) V (by simp)
  replace V := V.push #[.bool n3, .int .u64 a3, .int .u64 b3, .int .i64 t] 25
  go_wp2_with fail
  refine (div_q n3 a3 b3 t β false a2 b2 t y 0 2 _ D3 D2 (sm_30 Sβ.out) Sy.out (by omega) lt lt t9 t9 (by decide) (by decide) (by decide) K.natAbs (by rw [← HBe.out]; exact divN_back _ hy0) HKN.out).mono ?_
  rintro e w4 ⟨_, ⟨n4, a4, b4, D4, rfl⟩, rfl, hb⟩
  rw [neq_false, zOf_sgn (K := K) (by rw [D3.1, ← HBe.out]; exact decide_eq_decide.2 (mul_neg_iff hy0))] at D4
  replace V := V.below hb
  clear hb
  clear g2 p20 p21 p22 p23 g1 p10 p11 p12 p13
  obtain ⟨g2, p20, p21, p22, p23⟩ := HB.dec (t := 25) (g := w2.heap.size) (a := .bool false) (b := .int .u64 a2) (c := .int .u64 b2) (d := .int .i64 t) V (by simp)
  obtain ⟨g1, p10, p11, p12, p13⟩ := HB.dec (t := 25) (g := w1.heap.size) (a := .bool n1) (b := .int .u64 a1) (c := .int .u64 b1) (d := .int .i64 s) V (by simp)
  obtain ⟨g3, p30, p31, p32, p33⟩ := HB.dec (t := 25) (g := w3.heap.size) (a := .bool n3) (b := .int .u64 a3) (c := .int .u64 b3) (d := .int .i64 t) V (by simp)
  replace V := V.push #[.bool n4, .int .u64 a4, .int .u64 b4, .int .i64 0] 25
  go_wp2_with fail
  refine (mul_d n4 a4 b4 0 K false a2 b2 t y _ D4 D2 (sm_30 SK.out) (sm_30 Sy.out) (by decide) lt (by omega) HKy.out).mono ?_
  rintro e w5 ⟨_, ⟨n5, a5, b5, D5, rfl⟩, rfl, hb⟩
  rw [HBe.out] at D5
  rw [Int.zero_add]
  replace V := V.below hb
  clear hb
  clear g2 p20 p21 p22 p23 g1 p10 p11 p12 p13 g3 p30 p31 p32 p33
  obtain ⟨g1, p10, p11, p12, p13⟩ := HB.dec (t := 25) (g := w1.heap.size) (a := .bool n1) (b := .int .u64 a1) (c := .int .u64 b1) (d := .int .i64 s) V (by simp)
  obtain ⟨g3, p30, p31, p32, p33⟩ := HB.dec (t := 25) (g := w3.heap.size) (a := .bool n3) (b := .int .u64 a3) (c := .int .u64 b3) (d := .int .i64 t) V (by simp)
  replace V := V.push #[.bool n5, .int .u64 a5, .int .u64 b5, .int .i64 t] 25
  go_wp2_with fail
  refine (sub_d n3 a3 b3 t β n1 a1 b1 s x r _ D1 D3 Sβ.out Sx.out lt ls t9 s9 HR2.out).mono ?_
  rintro e w6 ⟨_, ⟨n6, a6, b6, D6, rfl⟩, rfl, hb⟩
  rw [HDe.out] at D6
  replace V := V.below hb
  clear hb
  clear g1 p10 p11 p12 p13 g3 p30 p31 p32 p33
  obtain ⟨g1, p10, p11, p12, p13⟩ := HB.dec (t := 25) (g := w1.heap.size) (a := .bool n1) (b := .int .u64 a1) (c := .int .u64 b1) (d := .int .i64 s) V (by simp)
  obtain ⟨g2, p20, p21, p22, p23⟩ := HB.dec (t := 25) (g := w2.heap.size) (a := .bool false) (b := .int .u64 a2) (c := .int .u64 b2) (d := .int .i64 t) V (by simp)
  obtain ⟨g3, p30, p31, p32, p33⟩ := HB.dec (t := 25) (g := w3.heap.size) (a := .bool n3) (b := .int .u64 a3) (c := .int .u64 b3) (d := .int .i64 t) V (by simp)
  obtain ⟨g5, p50, p51, p52, p53⟩ := HB.dec (t := 25) (g := w5.heap.size) (a := .bool n5) (b := .int .u64 a5) (c := .int .u64 b5) (d := .int .i64 t) V (by simp)
  have VG6 := V.1.size
  have HG6 := Lib.hid VG6
  have HNE6 := Lib.hid (show ∀ b0 ∈ ([(w5.heap.size, 25, #[.bool n5, .int .u64 a5, .int .u64 b5, .int .i64 t]), (w3.heap.size, 25, #[.bool n3, .int .u64 a3, .int .u64 b3, .int .i64 t]), (w2.heap.size, 25, #[.bool false, .int .u64 a2, .int .u64 b2, .int .i64 t]), (w1.heap.size, 25, #[.bool n1, .int .u64 a1, .int .u64 b1, .int .i64 s])] : List (Nat × TypeId × Array Value)), b0.1 ≠ w6.heap.size from fun b0 hb => by
    simp at hb
    rcases hb with rfl | rfl | rfl | rfl <;> (dsimp only; omega))
  clear VG6
  replace V := V.push #[.bool n6, .int .u64 a6, .int .u64 b6, .int .i64 r] 25
  rcases Int.lt_or_le δ 0 with hd | hd
  · as_aux_lemma =>
      obtain ⟨σ, hσ⟩ : ∃ σ, δ.sign = σ := ⟨_, rfl⟩
      have hσ0 : σ < 0 := by rw [← hσ]; rw [Int.sign_eq_neg_one_of_neg hd]; decide
      have HS := Lib.hid hσ
      clear hσ
      have Hd := Lib.hid hd
      clear hd
      go_wp2_with fail
      refine (sign_v n6 a6 b6 r δ σ _ D6 (sm_30 Sδ.out) lr r9 HS.out).mono ?_
      rintro e ws ⟨_, rfl, rfl, hb⟩
      replace V := V.below hb
      clear hb
      clear g1 p10 p11 p12 p13 g2 p20 p21 p22 p23 g3 p30 p31 p32 p33 g5 p50 p51 p52 p53
      obtain ⟨g1, p10, p11, p12, p13⟩ := HB.dec (t := 25) (g := w1.heap.size) (a := .bool n1) (b := .int .u64 a1) (c := .int .u64 b1) (d := .int .i64 s) V (by simp)
      obtain ⟨g2, p20, p21, p22, p23⟩ := HB.dec (t := 25) (g := w2.heap.size) (a := .bool false) (b := .int .u64 a2) (c := .int .u64 b2) (d := .int .i64 t) V (by simp)
      obtain ⟨g3, p30, p31, p32, p33⟩ := HB.dec (t := 25) (g := w3.heap.size) (a := .bool n3) (b := .int .u64 a3) (c := .int .u64 b3) (d := .int .i64 t) V (by simp)
      obtain ⟨g5, p50, p51, p52, p53⟩ := HB.dec (t := 25) (g := w5.heap.size) (a := .bool n5) (b := .int .u64 a5) (c := .int .u64 b5) (d := .int .i64 t) V (by simp)
      obtain ⟨g6, p60, p61, p62, p63⟩ := HB.dec (t := 25) (g := w6.heap.size) (a := .bool n6) (b := .int .u64 a6) (c := .int .u64 b6) (d := .int .i64 r) V (by simp)
      go_wp2_with fail
      refine (neg_d n6 a6 b6 r δ _ D6 (sm_30 Sδ.out) lr r9).mono ?_
      rintro e wn ⟨_, ⟨n16, a16, b16, D16, rfl⟩, rfl, hb⟩
      have e9 : ((δ.natAbs : Nat) : Int) = -δ := by have := Hd.out; omega
      have De : DecIs n16 a16 b16 ((δ.natAbs : Nat) : Int) := by rw [e9]; exact D16
      clear e9 D16
      replace V := V.below hb
      clear hb
      clear g1 p10 p11 p12 p13 g2 p20 p21 p22 p23 g3 p30 p31 p32 p33 g5 p50 p51 p52 p53 g6 p60 p61 p62 p63
      have Bo := HB.blk (g := w6.heap.size) (t := 25) (cs := #[.bool n6, .int .u64 a6, .int .u64 b6, .int .i64 r]) V (by simp)
      obtain ⟨g1, p10, p11, p12, p13⟩ := HB.dec (t := 25) (g := w1.heap.size) (a := .bool n1) (b := .int .u64 a1) (c := .int .u64 b1) (d := .int .i64 s) V (by simp)
      obtain ⟨g2, p20, p21, p22, p23⟩ := HB.dec (t := 25) (g := w2.heap.size) (a := .bool false) (b := .int .u64 a2) (c := .int .u64 b2) (d := .int .i64 t) V (by simp)
      obtain ⟨g3, p30, p31, p32, p33⟩ := HB.dec (t := 25) (g := w3.heap.size) (a := .bool n3) (b := .int .u64 a3) (c := .int .u64 b3) (d := .int .i64 t) V (by simp)
      obtain ⟨g5, p50, p51, p52, p53⟩ := HB.dec (t := 25) (g := w5.heap.size) (a := .bool n5) (b := .int .u64 a5) (c := .int .u64 b5) (d := .int .i64 t) V (by simp)
      obtain ⟨g6, p60, p61, p62, p63⟩ := HB.dec (t := 25) (g := w6.heap.size) (a := .bool n6) (b := .int .u64 a6) (c := .int .u64 b6) (d := .int .i64 r) V (by simp)
      have hgo : w.heap.size ≤ w6.heap.size := HG6.out
      have V2 := HB.set4 (g := w6.heap.size) (t := 25) (bs := [(w5.heap.size, 25, #[.bool n5, .int .u64 a5, .int .u64 b5, .int .i64 t]), (w3.heap.size, 25, #[.bool n3, .int .u64 a3, .int .u64 b3, .int .i64 t]), (w2.heap.size, 25, #[.bool false, .int .u64 a2, .int .u64 b2, .int .i64 t]), (w1.heap.size, 25, #[.bool n1, .int .u64 a1, .int .u64 b1, .int .i64 s])]) (a' := .bool n16) (b' := .int .u64 a16) (c' := .int .u64 b16) (d' := .int .i64 r) (HB.sub V (by simp)) Bo hgo HNE6.out
      have fz0 := Bo.frozen 0
      have fz1 := Bo.frozen 1
      have fz2 := Bo.frozen 2
      have fz3 := Bo.frozen 3
      clear V Bo
      have V := V2
      clear V2
      go_wp2_with fail
      refine (add_d n16 a16 b16 r ((δ.natAbs : Nat) : Int) n16 a16 b16 r ((δ.natAbs : Nat) : Int) r _ De De SE.out SE.out lr lr r9 r9 (Or.inr ⟨Int.le_refl _, rfl⟩)).mono ?_
      rintro e w7 ⟨_, ⟨n7, a7, b7, D7, rfl⟩, rfl, hb⟩
      rw [zAt_self] at D7
      replace V := V.below hb
      clear hb
      clear g1 p10 p11 p12 p13 g2 p20 p21 p22 p23 g3 p30 p31 p32 p33 g5 p50 p51 p52 p53 g6 p60 p61 p62 p63
      clear fz0 fz1 fz2 fz3
      obtain ⟨g1, p10, p11, p12, p13⟩ := HB.dec (t := 25) (g := w1.heap.size) (a := .bool n1) (b := .int .u64 a1) (c := .int .u64 b1) (d := .int .i64 s) V (by simp)
      obtain ⟨g2, p20, p21, p22, p23⟩ := HB.dec (t := 25) (g := w2.heap.size) (a := .bool false) (b := .int .u64 a2) (c := .int .u64 b2) (d := .int .i64 t) V (by simp)
      obtain ⟨g3, p30, p31, p32, p33⟩ := HB.dec (t := 25) (g := w3.heap.size) (a := .bool n3) (b := .int .u64 a3) (c := .int .u64 b3) (d := .int .i64 t) V (by simp)
      obtain ⟨g5, p50, p51, p52, p53⟩ := HB.dec (t := 25) (g := w5.heap.size) (a := .bool n5) (b := .int .u64 a5) (c := .int .u64 b5) (d := .int .i64 t) V (by simp)
      replace V := V.push #[.bool n7, .int .u64 a7, .int .u64 b7, .int .i64 r] 25
      go_wp2_with fail
      refine (qk_c _).mono ?_
      rintro e wk ⟨_, rfl, rfl, hb⟩
      replace V := V.below hb
      clear hb
      clear g1 p10 p11 p12 p13 g2 p20 p21 p22 p23 g3 p30 p31 p32 p33 g5 p50 p51 p52 p53
      obtain ⟨g1, p10, p11, p12, p13⟩ := HB.dec (t := 25) (g := w1.heap.size) (a := .bool n1) (b := .int .u64 a1) (c := .int .u64 b1) (d := .int .i64 s) V (by simp)
      obtain ⟨g2, p20, p21, p22, p23⟩ := HB.dec (t := 25) (g := w2.heap.size) (a := .bool false) (b := .int .u64 a2) (c := .int .u64 b2) (d := .int .i64 t) V (by simp)
      obtain ⟨g3, p30, p31, p32, p33⟩ := HB.dec (t := 25) (g := w3.heap.size) (a := .bool n3) (b := .int .u64 a3) (c := .int .u64 b3) (d := .int .i64 t) V (by simp)
      obtain ⟨g5, p50, p51, p52, p53⟩ := HB.dec (t := 25) (g := w5.heap.size) (a := .bool n5) (b := .int .u64 a5) (c := .int .u64 b5) (d := .int .i64 t) V (by simp)
      obtain ⟨g7, p70, p71, p72, p73⟩ := HB.dec (t := 25) (g := w7.heap.size) (a := .bool n7) (b := .int .u64 a7) (c := .int .u64 b7) (d := .int .i64 r) V (by simp)
      go_wp2_with fail
      refine (cmp_v n5 a5 b5 t β n3 a3 b3 t β t 0 _ D5 D3 Sβ.out Sβ.out lt lt t9 t9 (Or.inr ⟨Int.le_refl _, rfl⟩) HC1.out).mono ?_
      rintro e wl ⟨_, rfl, rfl, hb⟩
      replace V := V.below hb
      clear hb
      clear g1 p10 p11 p12 p13 g2 p20 p21 p22 p23 g3 p30 p31 p32 p33 g5 p50 p51 p52 p53 g7 p70 p71 p72 p73
      obtain ⟨g1, p10, p11, p12, p13⟩ := HB.dec (t := 25) (g := w1.heap.size) (a := .bool n1) (b := .int .u64 a1) (c := .int .u64 b1) (d := .int .i64 s) V (by simp)
      obtain ⟨g2, p20, p21, p22, p23⟩ := HB.dec (t := 25) (g := w2.heap.size) (a := .bool false) (b := .int .u64 a2) (c := .int .u64 b2) (d := .int .i64 t) V (by simp)
      obtain ⟨g7, p70, p71, p72, p73⟩ := HB.dec (t := 25) (g := w7.heap.size) (a := .bool n7) (b := .int .u64 a7) (c := .int .u64 b7) (d := .int .i64 r) V (by simp)
      have hc20 := HC20.out
      go_wp2_with fail
      refine (cmp_v n7 a7 b7 r (((δ.natAbs : Nat) : Int) + ((δ.natAbs : Nat) : Int)) false a2 b2 t y r c2 _ D7 D2 S2E.out Sy.out lr lt r9 t9 (by omega) HC2.out).mono ?_
      rintro e wm ⟨_, rfl, rfl, hb⟩
      replace V := V.below hb
      clear hb
      clear g1 p10 p11 p12 p13 g2 p20 p21 p22 p23 g7 p70 p71 p72 p73
      obtain ⟨g1, p10, p11, p12, p13⟩ := HB.dec (t := 25) (g := w1.heap.size) (a := .bool n1) (b := .int .u64 a1) (c := .int .u64 b1) (d := .int .i64 s) V (by simp)
      go_wp2_with fail
      refine (pick_c _ 3000 _ (by omega) (by omega)).mono ?_
      rintro e w' ⟨_, ⟨v4, ⟨lo4, hi4⟩, rfl⟩, rfl, rfl⟩
      obtain ⟨z, ez⟩ : ∃ z : Int, 1 + v4 = z := ⟨_, rfl⟩
      have hz0 : 0 < z := by omega
      have hz3 : z ≤ 3000 := by omega
      go_wp2_with fail
      refine (refOf_c z 1 _ (by omega) (by omega) (by decide) (by decide)).mono ?_
      rintro e w8 ⟨_, ⟨n8, a8, b8, D8, rfl⟩, rfl, hb⟩
      clear lo4 hi4 ez
      obtain rfl : n8 = false := by rw [D8.1]; exact decide_eq_false (by omega)
      replace V := V.below hb
      clear hb
      clear g1 p10 p11 p12 p13
      obtain ⟨g1, p10, p11, p12, p13⟩ := HB.dec (t := 25) (g := w1.heap.size) (a := .bool n1) (b := .int .u64 a1) (c := .int .u64 b1) (d := .int .i64 s) V (by simp)
      replace V := V.push #[.bool false, .int .u64 a8, .int .u64 b8, .int .i64 1] 25
      obtain ⟨M, hM⟩ : ∃ M : Nat, divN (n1 != false) x s z 1 3 0 = M := ⟨_, rfl⟩
      have hMb : M ≤ 100000000001 := by
        rw [← hM]
        unfold divN
        refine Nat.le_trans (rd_le _ _ _ _) ?_
        have := mul_le2 Hx.out (pow4_le (k := (3 + 1 - s).toNat) (by omega))
        omega
      obtain ⟨L, hL⟩ : ∃ L : Int, zOf (n1 != false) M = L := ⟨_, rfl⟩
      have hLb : L.natAbs ≤ 100000000001 := by rw [← hL, zOf_abs]; exact hMb
      obtain ⟨ρ, hρ⟩ : ∃ ρ : Int, L * z = ρ := ⟨_, rfl⟩
      have hρb : ρ.natAbs ≤ 300000000003000 := by rw [← hρ, Int.natAbs_mul]; have := mul_le2 hLb (show z.natAbs ≤ 3000 by omega); omega
      obtain ⟨lam, hlam⟩ : ∃ lam : Int, zAt x s 4 - ρ = lam := ⟨_, rfl⟩
      have hleft := units_left (n := n1) (x := x) (s := s) (z := z) (mo := z) (lam := lam) (M := M) D1.1 hz0 ls Hs3.out (by rw [← hM, neq_false]) (by rw [neq_false] at hL; rw [hL, hρ]; exact hlam) rfl
      have hxz : (x * z).natAbs ≤ 30000000000 := by rw [Int.natAbs_mul]; have := mul_le2 Hx.out (show z.natAbs ≤ 3000 by omega); omega
      obtain ⟨X, hX⟩ : ∃ X, zAt (x * z) (s + 1) 9 = X := ⟨_, rfl⟩
      have hXb : X.natAbs ≤ 30000000000000000000 := by
        rw [← hX, zAt_abs]
        have h9 : 10 ^ (9 - (s + 1)).toNat ≤ 10 ^ 8 := Nat.pow_le_pow_right (n := 10) (by decide) (show (9 - (s + 1)).toNat ≤ 8 by omega)
        have := mul_le2 hxz h9
        omega
      have Sz := Lib.hid (show Sm z by unfold Sm; omega)
      have SL := Lib.hid (show Sm L by unfold Sm; omega)
      have Sρ := Lib.hid (show Sm ρ by unfold Sm; omega)
      have Sl := Lib.hid (show Sm lam by unfold Sm; omega)
      have SF := Lib.hid (show Sm ((lam.natAbs : Nat) : Int) by unfold Sm; omega)
      have Sxz := Lib.hid (show Sm (x * z) by unfold Sm; omega)
      have SX := Lib.hid (show Sm X by unfold Sm; omega)
      have HMb := Lib.hid (show M < 1000000000000000000000000000000 by omega)
      have HLz := Lib.hid (show L.natAbs * z.natAbs < 1000000000000000000000000000000 by rw [← Int.natAbs_mul, hρ]; omega)
      have Hxz := Lib.hid (show x.natAbs * z.natAbs < 1000000000000000000000000000000 by rw [← Int.natAbs_mul]; omega)
      have HC3 := Lib.hid (show cmpZ (zAt ((lam.natAbs : Nat) : Int) 4 4) (zAt z 4 4) = -1 by rw [zAt_self, zAt_self]; exact cmpZ_lt hleft)
      have HC4 := Lib.hid (show cmpZ (zAt X 9 9) (zAt (x * z) (s + 1) 9) = 0 by rw [zAt_self, hX]; exact cmpZ_self _)
      have HMe := Lib.hid hM
      have HLe := Lib.hid hL
      have Hρe := Lib.hid hρ
      have Hle := Lib.hid hlam
      have HXe := Lib.hid hX
      clear hM hL hρ hlam hX hMb hLb hρb hleft hxz hXb hz3
      go_wp2_with fail
      refine (div_q n1 a1 b1 s x false a8 b8 1 z 3 0 _ D1 D8 (sm_30 Sx.out) Sz.out (by omega) ls (by decide) s9 (by decide) (by decide) (by decide) (by decide) M HMe.out HMb.out).mono ?_
      rintro e w9 ⟨_, ⟨n9, a9, b9, D9, rfl⟩, rfl, hb⟩
      rw [HLe.out] at D9
      replace V := V.below hb
      clear hb
      clear g1 p10 p11 p12 p13
      obtain ⟨g1, p10, p11, p12, p13⟩ := HB.dec (t := 25) (g := w1.heap.size) (a := .bool n1) (b := .int .u64 a1) (c := .int .u64 b1) (d := .int .i64 s) V (by simp)
      obtain ⟨g8, p80, p81, p82, p83⟩ := HB.dec (t := 25) (g := w8.heap.size) (a := .bool false) (b := .int .u64 a8) (c := .int .u64 b8) (d := .int .i64 1) V (by simp)
      replace V := V.push #[.bool n9, .int .u64 a9, .int .u64 b9, .int .i64 3] 25
      go_wp2_with fail
      refine (mul_d n9 a9 b9 3 L false a8 b8 1 z _ D9 D8 (sm_30 SL.out) (sm_30 Sz.out) (by decide) (by decide) (by decide) HLz.out).mono ?_
      rintro e w10 ⟨_, ⟨n10, a10, b10, D10, rfl⟩, rfl, hb⟩
      rw [Hρe.out] at D10
      rw [show (3 : Int) + 1 = 4 from rfl]
      replace V := V.below hb
      clear hb
      clear g1 p10 p11 p12 p13 g8 p80 p81 p82 p83
      obtain ⟨g1, p10, p11, p12, p13⟩ := HB.dec (t := 25) (g := w1.heap.size) (a := .bool n1) (b := .int .u64 a1) (c := .int .u64 b1) (d := .int .i64 s) V (by simp)
      obtain ⟨g8, p80, p81, p82, p83⟩ := HB.dec (t := 25) (g := w8.heap.size) (a := .bool false) (b := .int .u64 a8) (c := .int .u64 b8) (d := .int .i64 1) V (by simp)
      replace V := V.push #[.bool n10, .int .u64 a10, .int .u64 b10, .int .i64 4] 25
      go_wp2_with fail
      refine (sub_d n1 a1 b1 s x n10 a10 b10 4 ρ 4 _ D10 D1 Sx.out Sρ.out ls (by decide) s9 (by decide) (by omega)).mono ?_
      rintro e w11 ⟨_, ⟨n11, a11, b11, D11, rfl⟩, rfl, hb⟩
      rw [zAt_self, Hle.out] at D11
      replace V := V.below hb
      clear hb
      clear g1 p10 p11 p12 p13 g8 p80 p81 p82 p83
      obtain ⟨g1, p10, p11, p12, p13⟩ := HB.dec (t := 25) (g := w1.heap.size) (a := .bool n1) (b := .int .u64 a1) (c := .int .u64 b1) (d := .int .i64 s) V (by simp)
      obtain ⟨g8, p80, p81, p82, p83⟩ := HB.dec (t := 25) (g := w8.heap.size) (a := .bool false) (b := .int .u64 a8) (c := .int .u64 b8) (d := .int .i64 1) V (by simp)
      have HG11 := Lib.hid V.1.size
      replace V := V.push #[.bool n11, .int .u64 a11, .int .u64 b11, .int .i64 4] 25
      have hl13 := g1
      have VV : HB w [(w11.heap.size, 25, #[.bool n11, .int .u64 a11, .int .u64 b11, .int .i64 4]), (w8.heap.size, 25, #[.bool false, .int .u64 a8, .int .u64 b8, .int .i64 1]), (w1.heap.size, 25, #[.bool n1, .int .u64 a1, .int .u64 b1, .int .i64 s])] (w11.alloc (.cells #[.bool n11, .int .u64 a11, .int .u64 b11, .int .i64 4] 25)) := HB.sub V (by simp)
      have hsz8 := g8
      clear V
      clear g1 p10 p11 p12 p13 g8 p80 p81 p82 p83
      have D1o : DecIs false 1 0 1 := dec_pos (by decide) (by decide)
      have D8m : DecIs false a8 b8 (z * 1) := by rw [Int.mul_one]; exact D8
      have RO := Lib.hid (show ∀ wq : World, Calls Try.prog 20 #[.int .i64 1, .int .i64 3] wq (Ret wq (· = .agg #[.bool false, .int .u64 1, .int .u64 0, .int .i64 3])) from fun wq => refOf_v 1 3 false 1 0 wq (by decide) (by decide) (by decide) (by decide) D1o)
      have RM := Lib.hid (show ∀ wq : World, Calls Try.prog 21 #[.agg #[.bool false, .int .u64 a8, .int .u64 b8, .int .i64 1], .agg #[.bool false, .int .u64 1, .int .u64 0, .int .i64 3]] wq (Ret wq (· = .tuple #[.agg #[.bool false, .int .u64 a8, .int .u64 b8, .int .i64 4], .int .i64 0])) from fun wq => mul_v false a8 b8 1 z false 1 0 3 1 false a8 b8 wq D8 D1o D8m (sm_30 Sz.out) (by decide) (by decide) (by decide) (by decide) (by rw [show (1 : Int).natAbs = 1 from rfl, Nat.mul_one]; exact sm_30 Sz.out))
      go_upto_region 17 with fail
      go_cut [32, 33] (fun s' t' wx => ∃ gm : Nat, s' = .pointer (some ⟨gm, 0, none⟩) ∧ t' = .int .i64 0 ∧ w11.heap.size < gm ∧ HB w ((gm, 25, #[.bool false, .int .u64 a8, .int .u64 b8, .int .i64 4]) :: [(w11.heap.size, 25, #[.bool n11, .int .u64 a11, .int .u64 b11, .int .i64 4]), (w8.heap.size, 25, #[.bool false, .int .u64 a8, .int .u64 b8, .int .i64 1]), (w1.heap.size, 25, #[.bool n1, .int .u64 a1, .int .u64 b1, .int .i64 s])]) wx)
      case first =>
        have hs8 := hsz8
        have hs1 := hl13
        have hs0 := HG11.out
        go_region_held3 (fun w' => HB w [(w11.heap.size, 25, #[.bool n11, .int .u64 a11, .int .u64 b11, .int .i64 4]), (w8.heap.size, 25, #[.bool false, .int .u64 a8, .int .u64 b8, .int .i64 1]), (w1.heap.size, 25, #[.bool n1, .int .u64 a1, .int .u64 b1, .int .i64 s])] w' ∧ (w'.cell? ⟨w8.heap.size, 0, none⟩ = some (.bool false) ∧ w'.cell? ⟨w8.heap.size, 1, none⟩ = some (.int .u64 a8) ∧ w'.cell? ⟨w8.heap.size, 2, none⟩ = some (.int .u64 b8) ∧ w'.cell? ⟨w8.heap.size, 3, none⟩ = some (.int .i64 1)))
          ((refine usMk ?_; repeat (first | (with_reducible exact HWm) | (with_reducible exact HWo) | (with_reducible exact VV) | (with_reducible refine HB.drew ?_) | (with_reducible refine HB.alloc ?_ _) | ((with_reducible refine HB.set_ ?_ ?_ ?_ _); rotate_left; (focus (simp; omega)); (focus (simp; omega))))))
          (first
            | (go_at_call 20; (with_reducible refine (RO.out _).mono ?_); rintro e wo ⟨_, rfl, rfl, hbo⟩; have HWo := keepB hbo (by assumption); have HBo := HB.bel HWo; have hszo := hbo.size; (try simp at hszo); (try ((refine rd_cutp (P := Blk wo (w11.heap.size + 1) 25 #[.bool false, .int .u64 0, .int .u64 0, .int .i64 0]) ?_ ?_); (focus ((refine Blk.below ?_ hbo ?_); (focus ((repeat (first | (with_reducible assumption) | ((with_reducible refine Blk.new_at ?_); (simp; done)) | (with_reducible refine Blk.drew ?_) | (with_reducible refine Blk.alloc ?_ _))); done)); (first | omega | (simp; done) | (simp; omega)))); intro A; have lA := A.lt; have A0 := A.cell 0; have A1 := A.cell 1; have A2 := A.cell 2; have A3 := A.cell 3; have fA0 := A.frozen 0; have fA1 := A.frozen 1; have fA2 := A.frozen 2; have fA3 := A.frozen 3; simp at A0 A1 A2 A3)); clear hbo)
            | (go_at_call 21; (with_reducible refine (RM.out _).mono ?_); rintro e wu ⟨_, rfl, rfl, hbu⟩; have HWm := keepB hbu (by assumption); have HBm := HB.bel HWm; have hszu := hbu.size; (try simp at hszu); (try ((refine rd_cutp (P := Blk wu (w11.heap.size + 1) 25 #[.bool false, .int .u64 0, .int .u64 0, .int .i64 0]) ?_ ?_); (focus ((refine Blk.below ?_ hbu ?_); (focus ((repeat (first | (with_reducible assumption) | ((with_reducible refine Blk.new_at ?_); (simp; done)) | (with_reducible refine Blk.drew ?_) | (with_reducible refine Blk.alloc ?_ _))); done)); (first | omega | (simp; done) | (simp; omega)))); intro B; have lB := B.lt; have B0 := B.cell 0; have B1 := B.cell 1; have B2 := B.cell 2; have B3 := B.cell 3; have fB0 := B.frozen 0; have fB1 := B.frozen 1; have fB2 := B.frozen 2; have fB3 := B.frozen 3; simp at B0 B1 B2 B3)); (try ((refine rd_cutp (P := Blk wu (wo.heap.size) 25 #[.bool false, .int .u64 0, .int .u64 0, .int .i64 0]) ?_ ?_); (focus ((refine Blk.below ?_ hbu ?_); (focus ((repeat (first | (with_reducible assumption) | ((with_reducible refine Blk.new_at ?_); (simp; done)) | (with_reducible refine Blk.drew ?_) | (with_reducible refine Blk.alloc ?_ _))); done)); (first | omega | (simp; done) | (simp; omega)))); intro C; have lC := C.lt; have C0 := C.cell 0; have C1 := C.cell 1; have C2 := C.cell 2; have C3 := C.cell 3; have fC0 := C.frozen 0; have fC1 := C.frozen 1; have fC2 := C.frozen 2; have fC3 := C.frozen 3; simp at C0 C1 C2 C3)); clear hbu))
        all_goals
          go_wp2_with fail
          go_meet
          case rel =>
            refine ⟨_, rfl, rfl, ?_, ?_, ?_⟩
            · first | omega | (simp; omega)
            · repeat (first | (with_reducible exact HBm) | (with_reducible refine bel_alloc ?_ _) | ((with_reducible refine Below.setCell ?_ ?_ _); rotate_left; (focus (simp; omega))))
            · intro b hb
              rcases List.mem_cons.1 hb with rfl | hb
              · dsimp only
                repeat (first | ((with_reducible refine Blk.new_at ?_); (simp; done)) | (with_reducible refine Blk.alloc ?_ _) | (with_reducible exact rd_set4 B) | (with_reducible exact rd_set4 C) | (with_reducible refine rd_set4 (a := .bool false) (b := .int .u64 0) (c := .int .u64 0) (d := .int .i64 0) ?_))
              · have BR := HWm.2 b hb
                have hbl : b.1 < w11.heap.size + 1 := by
                  simp at hb
                  rcases hb with rfl | rfl | rfl <;> (dsimp only; omega)
                clear hb
                obtain ⟨bg, bt, bc⟩ := b
                dsimp only at BR hbl ⊢
                repeat (first | (with_reducible exact BR) | (with_reducible refine Blk.alloc ?_ _) | (refine Blk.far (p := ⟨_, _, none⟩) ?_ (by first | (simp; done) | (simp; omega) | omega) _))
      case rest =>
        clear VV
        obtain ⟨gm, rfl, rfl, hgm, V⟩ := hcut
        rcases Int.lt_or_le lam 0 with hd | hd
        · as_aux_lemma =>
            obtain ⟨τ, hτ⟩ : ∃ τ, lam.sign = τ := ⟨_, rfl⟩
            have hτ0 : τ < 0 := by rw [← hτ, Int.sign_eq_neg_one_of_neg hd]; decide
            have HT := Lib.hid hτ
            clear hτ
            have Hd2 := Lib.hid hd
            clear hd
            obtain ⟨g1, p10, p11, p12, p13⟩ := HB.dec (t := 25) (g := w1.heap.size) (a := .bool n1) (b := .int .u64 a1) (c := .int .u64 b1) (d := .int .i64 s) V (by simp)
            obtain ⟨g8, p80, p81, p82, p83⟩ := HB.dec (t := 25) (g := w8.heap.size) (a := .bool false) (b := .int .u64 a8) (c := .int .u64 b8) (d := .int .i64 1) V (by simp)
            obtain ⟨g11, p110, p111, p112, p113⟩ := HB.dec (t := 25) (g := w11.heap.size) (a := .bool n11) (b := .int .u64 a11) (c := .int .u64 b11) (d := .int .i64 4) V (by simp)
            obtain ⟨g12, p120, p121, p122, p123⟩ := HB.dec (t := 25) (g := gm) (a := .bool false) (b := .int .u64 a8) (c := .int .u64 b8) (d := .int .i64 4) V (by simp)
            go_wp2_with fail
            refine (sign_v n11 a11 b11 4 lam τ _ D11 (sm_30 Sl.out) (by decide) (by decide) HT.out).mono ?_
            rintro e wp ⟨_, rfl, rfl, hb⟩
            replace V := V.below hb
            clear hb
            clear g1 p10 p11 p12 p13 g8 p80 p81 p82 p83 g11 p110 p111 p112 p113 g12 p120 p121 p122 p123
            obtain ⟨g1, p10, p11, p12, p13⟩ := HB.dec (t := 25) (g := w1.heap.size) (a := .bool n1) (b := .int .u64 a1) (c := .int .u64 b1) (d := .int .i64 s) V (by simp)
            obtain ⟨g8, p80, p81, p82, p83⟩ := HB.dec (t := 25) (g := w8.heap.size) (a := .bool false) (b := .int .u64 a8) (c := .int .u64 b8) (d := .int .i64 1) V (by simp)
            obtain ⟨g11, p110, p111, p112, p113⟩ := HB.dec (t := 25) (g := w11.heap.size) (a := .bool n11) (b := .int .u64 a11) (c := .int .u64 b11) (d := .int .i64 4) V (by simp)
            obtain ⟨g12, p120, p121, p122, p123⟩ := HB.dec (t := 25) (g := gm) (a := .bool false) (b := .int .u64 a8) (c := .int .u64 b8) (d := .int .i64 4) V (by simp)
            go_wp2_with fail
            refine (neg_d n11 a11 b11 4 lam _ D11 (sm_30 Sl.out) (by decide) (by decide)).mono ?_
            rintro e wq ⟨_, ⟨n17, a17, b17, D17, rfl⟩, rfl, hb⟩
            have e9 : ((lam.natAbs : Nat) : Int) = -lam := by have := Hd2.out; omega
            have Df : DecIs n17 a17 b17 ((lam.natAbs : Nat) : Int) := by rw [e9]; exact D17
            clear e9 D17
            replace V := V.below hb
            clear hb
            clear g1 p10 p11 p12 p13 g8 p80 p81 p82 p83 g11 p110 p111 p112 p113 g12 p120 p121 p122 p123
            have Bo := HB.blk (g := w11.heap.size) (t := 25) (cs := #[.bool n11, .int .u64 a11, .int .u64 b11, .int .i64 4]) V (by simp)
            obtain ⟨g1, p10, p11, p12, p13⟩ := HB.dec (t := 25) (g := w1.heap.size) (a := .bool n1) (b := .int .u64 a1) (c := .int .u64 b1) (d := .int .i64 s) V (by simp)
            obtain ⟨g8, p80, p81, p82, p83⟩ := HB.dec (t := 25) (g := w8.heap.size) (a := .bool false) (b := .int .u64 a8) (c := .int .u64 b8) (d := .int .i64 1) V (by simp)
            obtain ⟨g12, p120, p121, p122, p123⟩ := HB.dec (t := 25) (g := gm) (a := .bool false) (b := .int .u64 a8) (c := .int .u64 b8) (d := .int .i64 4) V (by simp)
            obtain ⟨g11, p110, p111, p112, p113⟩ := HB.dec (t := 25) (g := w11.heap.size) (a := .bool n11) (b := .int .u64 a11) (c := .int .u64 b11) (d := .int .i64 4) V (by simp)
            have hne : ∀ b0 ∈ ([(gm, 25, #[.bool false, .int .u64 a8, .int .u64 b8, .int .i64 4]), (w8.heap.size, 25, #[.bool false, .int .u64 a8, .int .u64 b8, .int .i64 1]), (w1.heap.size, 25, #[.bool n1, .int .u64 a1, .int .u64 b1, .int .i64 s])] : List (Nat × TypeId × Array Value)), b0.1 ≠ w11.heap.size := by
              intro b0 hb
              simp at hb
              rcases hb with rfl | rfl | rfl <;> (dsimp only; omega)
            have V2 := HB.set4 (g := w11.heap.size) (t := 25) (bs := [(gm, 25, #[.bool false, .int .u64 a8, .int .u64 b8, .int .i64 4]), (w8.heap.size, 25, #[.bool false, .int .u64 a8, .int .u64 b8, .int .i64 1]), (w1.heap.size, 25, #[.bool n1, .int .u64 a1, .int .u64 b1, .int .i64 s])]) (a' := .bool n17) (b' := .int .u64 a17) (c' := .int .u64 b17) (d' := .int .i64 4) (HB.sub V (by simp)) Bo HG11.out hne
            have fz0 := Bo.frozen 0
            have fz1 := Bo.frozen 1
            have fz2 := Bo.frozen 2
            have fz3 := Bo.frozen 3
            have ne1 : ¬ w1.heap.size = w11.heap.size := by omega
            have ne8 : ¬ w8.heap.size = w11.heap.size := by omega
            clear V Bo hne
            have V := V2
            clear V2
            go_wp2_with fail
            refine (times_up n1 a1 b1 s x false a8 b8 1 z 9 0 _ D1 D8 Sx.out Sz.out ls (by decide) s9 (by decide) (by decide) (by decide) (by decide) (by omega) Sxz.out).mono ?_
            rintro e w13 ⟨_, ⟨n13, a13, b13, D13, rfl⟩, rfl, hb⟩
            rw [HXe.out] at D13
            replace V := V.below hb
            clear hb
            clear g1 p10 p11 p12 p13 g8 p80 p81 p82 p83 g12 p120 p121 p122 p123 g11 p110 p111 p112 p113
            clear fz0 fz1 fz2 fz3 ne1 ne8
            obtain ⟨g1, p10, p11, p12, p13⟩ := HB.dec (t := 25) (g := w1.heap.size) (a := .bool n1) (b := .int .u64 a1) (c := .int .u64 b1) (d := .int .i64 s) V (by simp)
            obtain ⟨g8, p80, p81, p82, p83⟩ := HB.dec (t := 25) (g := w8.heap.size) (a := .bool false) (b := .int .u64 a8) (c := .int .u64 b8) (d := .int .i64 1) V (by simp)
            obtain ⟨g11, p110, p111, p112, p113⟩ := HB.dec (t := 25) (g := w11.heap.size) (a := .bool n17) (b := .int .u64 a17) (c := .int .u64 b17) (d := .int .i64 4) V (by simp)
            obtain ⟨g12, p120, p121, p122, p123⟩ := HB.dec (t := 25) (g := gm) (a := .bool false) (b := .int .u64 a8) (c := .int .u64 b8) (d := .int .i64 4) V (by simp)
            replace V := V.push #[.bool n13, .int .u64 a13, .int .u64 b13, .int .i64 9] 25
            go_wp2_with fail
            refine (mul_d n1 a1 b1 s x false a8 b8 1 z _ D1 D8 (sm_30 Sx.out) (sm_30 Sz.out) ls (by decide) (by omega) Hxz.out).mono ?_
            rintro e w14 ⟨_, ⟨n14, a14, b14, D14, rfl⟩, rfl, hb⟩
            replace V := V.below hb
            clear hb
            clear g1 p10 p11 p12 p13 g8 p80 p81 p82 p83 g11 p110 p111 p112 p113 g12 p120 p121 p122 p123
            obtain ⟨g11, p110, p111, p112, p113⟩ := HB.dec (t := 25) (g := w11.heap.size) (a := .bool n17) (b := .int .u64 a17) (c := .int .u64 b17) (d := .int .i64 4) V (by simp)
            obtain ⟨g12, p120, p121, p122, p123⟩ := HB.dec (t := 25) (g := gm) (a := .bool false) (b := .int .u64 a8) (c := .int .u64 b8) (d := .int .i64 4) V (by simp)
            obtain ⟨g13, p130, p131, p132, p133⟩ := HB.dec (t := 25) (g := w13.heap.size) (a := .bool n13) (b := .int .u64 a13) (c := .int .u64 b13) (d := .int .i64 9) V (by simp)
            replace V := V.push #[.bool n14, .int .u64 a14, .int .u64 b14, .int .i64 (s + 1)] 25
            go_wp2_with fail
            refine (cmp_v n17 a17 b17 4 ((lam.natAbs : Nat) : Int) false a8 b8 4 z 4 (-1) _ Df D8 SF.out Sz.out (by decide) (by decide) (by decide) (by decide) (by decide) HC3.out).mono ?_
            rintro e wr ⟨_, rfl, rfl, hb⟩
            replace V := V.below hb
            clear hb
            clear g11 p110 p111 p112 p113 g12 p120 p121 p122 p123 g13 p130 p131 p132 p133
            obtain ⟨g13, p130, p131, p132, p133⟩ := HB.dec (t := 25) (g := w13.heap.size) (a := .bool n13) (b := .int .u64 a13) (c := .int .u64 b13) (d := .int .i64 9) V (by simp)
            obtain ⟨g14, p140, p141, p142, p143⟩ := HB.dec (t := 25) (g := w14.heap.size) (a := .bool n14) (b := .int .u64 a14) (c := .int .u64 b14) (d := .int .i64 (s + 1)) V (by simp)
            go_wp2_with fail
            refine (cmp_v n13 a13 b13 9 X n14 a14 b14 (s + 1) (x * z) 9 0 _ D13 D14 SX.out Sxz.out (by decide) (by omega) (by decide) (by omega) (by omega) HC4.out).mono ?_
            rintro e wt ⟨_, rfl, rfl, hb⟩
            replace V := V.below hb
            clear hb
            clear g13 p130 p131 p132 p133 g14 p140 p141 p142 p143
            have HB1 := Lib.hid V.1
            clear V
            go_wp2
            go_ret
            exact ⟨rfl, HB1.out⟩
        · as_aux_lemma =>
            obtain ⟨τ, hτ⟩ : ∃ τ, lam.sign = τ := ⟨_, rfl⟩
            have hτ0 : ¬ τ < 0 := by
              rw [← hτ]
              rcases Int.lt_or_eq_of_le hd with h | h
              · rw [Int.sign_eq_one_of_pos h]; decide
              · rw [← h]; decide
            have HT := Lib.hid hτ
            clear hτ
            have Hd2 := Lib.hid hd
            clear hd
            obtain ⟨g1, p10, p11, p12, p13⟩ := HB.dec (t := 25) (g := w1.heap.size) (a := .bool n1) (b := .int .u64 a1) (c := .int .u64 b1) (d := .int .i64 s) V (by simp)
            obtain ⟨g8, p80, p81, p82, p83⟩ := HB.dec (t := 25) (g := w8.heap.size) (a := .bool false) (b := .int .u64 a8) (c := .int .u64 b8) (d := .int .i64 1) V (by simp)
            obtain ⟨g11, p110, p111, p112, p113⟩ := HB.dec (t := 25) (g := w11.heap.size) (a := .bool n11) (b := .int .u64 a11) (c := .int .u64 b11) (d := .int .i64 4) V (by simp)
            obtain ⟨g12, p120, p121, p122, p123⟩ := HB.dec (t := 25) (g := gm) (a := .bool false) (b := .int .u64 a8) (c := .int .u64 b8) (d := .int .i64 4) V (by simp)
            go_wp2_with fail
            refine (sign_v n11 a11 b11 4 lam τ _ D11 (sm_30 Sl.out) (by decide) (by decide) HT.out).mono ?_
            rintro e wp ⟨_, rfl, rfl, hb⟩
            replace V := V.below hb
            clear hb
            clear g1 p10 p11 p12 p13 g8 p80 p81 p82 p83 g11 p110 p111 p112 p113 g12 p120 p121 p122 p123
            obtain ⟨g1, p10, p11, p12, p13⟩ := HB.dec (t := 25) (g := w1.heap.size) (a := .bool n1) (b := .int .u64 a1) (c := .int .u64 b1) (d := .int .i64 s) V (by simp)
            obtain ⟨g8, p80, p81, p82, p83⟩ := HB.dec (t := 25) (g := w8.heap.size) (a := .bool false) (b := .int .u64 a8) (c := .int .u64 b8) (d := .int .i64 1) V (by simp)
            obtain ⟨g11, p110, p111, p112, p113⟩ := HB.dec (t := 25) (g := w11.heap.size) (a := .bool n11) (b := .int .u64 a11) (c := .int .u64 b11) (d := .int .i64 4) V (by simp)
            obtain ⟨g12, p120, p121, p122, p123⟩ := HB.dec (t := 25) (g := gm) (a := .bool false) (b := .int .u64 a8) (c := .int .u64 b8) (d := .int .i64 4) V (by simp)
            have e9 : ((lam.natAbs : Nat) : Int) = lam := by have := Hd2.out; omega
            have Df : DecIs n11 a11 b11 ((lam.natAbs : Nat) : Int) := by rw [e9]; exact D11
            clear e9
            go_wp2_with fail
            refine (times_up n1 a1 b1 s x false a8 b8 1 z 9 0 _ D1 D8 Sx.out Sz.out ls (by decide) s9 (by decide) (by decide) (by decide) (by decide) (by omega) Sxz.out).mono ?_
            rintro e w13 ⟨_, ⟨n13, a13, b13, D13, rfl⟩, rfl, hb⟩
            rw [HXe.out] at D13
            replace V := V.below hb
            clear hb
            clear g1 p10 p11 p12 p13 g8 p80 p81 p82 p83 g11 p110 p111 p112 p113 g12 p120 p121 p122 p123
            obtain ⟨g1, p10, p11, p12, p13⟩ := HB.dec (t := 25) (g := w1.heap.size) (a := .bool n1) (b := .int .u64 a1) (c := .int .u64 b1) (d := .int .i64 s) V (by simp)
            obtain ⟨g8, p80, p81, p82, p83⟩ := HB.dec (t := 25) (g := w8.heap.size) (a := .bool false) (b := .int .u64 a8) (c := .int .u64 b8) (d := .int .i64 1) V (by simp)
            obtain ⟨g11, p110, p111, p112, p113⟩ := HB.dec (t := 25) (g := w11.heap.size) (a := .bool n11) (b := .int .u64 a11) (c := .int .u64 b11) (d := .int .i64 4) V (by simp)
            obtain ⟨g12, p120, p121, p122, p123⟩ := HB.dec (t := 25) (g := gm) (a := .bool false) (b := .int .u64 a8) (c := .int .u64 b8) (d := .int .i64 4) V (by simp)
            replace V := V.push #[.bool n13, .int .u64 a13, .int .u64 b13, .int .i64 9] 25
            go_wp2_with fail
            refine (mul_d n1 a1 b1 s x false a8 b8 1 z _ D1 D8 (sm_30 Sx.out) (sm_30 Sz.out) ls (by decide) (by omega) Hxz.out).mono ?_
            rintro e w14 ⟨_, ⟨n14, a14, b14, D14, rfl⟩, rfl, hb⟩
            replace V := V.below hb
            clear hb
            clear g1 p10 p11 p12 p13 g8 p80 p81 p82 p83 g11 p110 p111 p112 p113 g12 p120 p121 p122 p123
            obtain ⟨g11, p110, p111, p112, p113⟩ := HB.dec (t := 25) (g := w11.heap.size) (a := .bool n11) (b := .int .u64 a11) (c := .int .u64 b11) (d := .int .i64 4) V (by simp)
            obtain ⟨g12, p120, p121, p122, p123⟩ := HB.dec (t := 25) (g := gm) (a := .bool false) (b := .int .u64 a8) (c := .int .u64 b8) (d := .int .i64 4) V (by simp)
            obtain ⟨g13, p130, p131, p132, p133⟩ := HB.dec (t := 25) (g := w13.heap.size) (a := .bool n13) (b := .int .u64 a13) (c := .int .u64 b13) (d := .int .i64 9) V (by simp)
            replace V := V.push #[.bool n14, .int .u64 a14, .int .u64 b14, .int .i64 (s + 1)] 25
            go_wp2_with fail
            refine (cmp_v n11 a11 b11 4 ((lam.natAbs : Nat) : Int) false a8 b8 4 z 4 (-1) _ Df D8 SF.out Sz.out (by decide) (by decide) (by decide) (by decide) (by decide) HC3.out).mono ?_
            rintro e wr ⟨_, rfl, rfl, hb⟩
            replace V := V.below hb
            clear hb
            clear g11 p110 p111 p112 p113 g12 p120 p121 p122 p123 g13 p130 p131 p132 p133
            obtain ⟨g13, p130, p131, p132, p133⟩ := HB.dec (t := 25) (g := w13.heap.size) (a := .bool n13) (b := .int .u64 a13) (c := .int .u64 b13) (d := .int .i64 9) V (by simp)
            obtain ⟨g14, p140, p141, p142, p143⟩ := HB.dec (t := 25) (g := w14.heap.size) (a := .bool n14) (b := .int .u64 a14) (c := .int .u64 b14) (d := .int .i64 (s + 1)) V (by simp)
            go_wp2_with fail
            refine (cmp_v n13 a13 b13 9 X n14 a14 b14 (s + 1) (x * z) 9 0 _ D13 D14 SX.out Sxz.out (by decide) (by omega) (by decide) (by omega) (by omega) HC4.out).mono ?_
            rintro e wt ⟨_, rfl, rfl, hb⟩
            replace V := V.below hb
            clear hb
            clear g13 p130 p131 p132 p133 g14 p140 p141 p142 p143
            have HB1 := Lib.hid V.1
            clear V
            go_wp2
            go_ret
            exact ⟨rfl, HB1.out⟩
  · as_aux_lemma =>
      obtain ⟨σ, hσ⟩ : ∃ σ, δ.sign = σ := ⟨_, rfl⟩
      have hσ0 : ¬ σ < 0 := by
        rw [← hσ]
        rcases Int.lt_or_eq_of_le hd with h | h
        · rw [Int.sign_eq_one_of_pos h]; decide
        · rw [← h]; decide
      have HS := Lib.hid hσ
      clear hσ
      have Hd := Lib.hid hd
      clear hd
      go_wp2_with fail
      refine (sign_v n6 a6 b6 r δ σ _ D6 (sm_30 Sδ.out) lr r9 HS.out).mono ?_
      rintro e ws ⟨_, rfl, rfl, hb⟩
      replace V := V.below hb
      clear hb
      clear g1 p10 p11 p12 p13 g2 p20 p21 p22 p23 g3 p30 p31 p32 p33 g5 p50 p51 p52 p53
      obtain ⟨g1, p10, p11, p12, p13⟩ := HB.dec (t := 25) (g := w1.heap.size) (a := .bool n1) (b := .int .u64 a1) (c := .int .u64 b1) (d := .int .i64 s) V (by simp)
      obtain ⟨g2, p20, p21, p22, p23⟩ := HB.dec (t := 25) (g := w2.heap.size) (a := .bool false) (b := .int .u64 a2) (c := .int .u64 b2) (d := .int .i64 t) V (by simp)
      obtain ⟨g3, p30, p31, p32, p33⟩ := HB.dec (t := 25) (g := w3.heap.size) (a := .bool n3) (b := .int .u64 a3) (c := .int .u64 b3) (d := .int .i64 t) V (by simp)
      obtain ⟨g5, p50, p51, p52, p53⟩ := HB.dec (t := 25) (g := w5.heap.size) (a := .bool n5) (b := .int .u64 a5) (c := .int .u64 b5) (d := .int .i64 t) V (by simp)
      obtain ⟨g6, p60, p61, p62, p63⟩ := HB.dec (t := 25) (g := w6.heap.size) (a := .bool n6) (b := .int .u64 a6) (c := .int .u64 b6) (d := .int .i64 r) V (by simp)
      have e9 : ((δ.natAbs : Nat) : Int) = δ := by have := Hd.out; omega
      have De : DecIs n6 a6 b6 ((δ.natAbs : Nat) : Int) := by rw [e9]; exact D6
      clear e9
      go_wp2_with fail
      refine (add_d n6 a6 b6 r ((δ.natAbs : Nat) : Int) n6 a6 b6 r ((δ.natAbs : Nat) : Int) r _ De De SE.out SE.out lr lr r9 r9 (Or.inr ⟨Int.le_refl _, rfl⟩)).mono ?_
      rintro e w7 ⟨_, ⟨n7, a7, b7, D7, rfl⟩, rfl, hb⟩
      rw [zAt_self] at D7
      replace V := V.below hb
      clear hb
      clear g1 p10 p11 p12 p13 g2 p20 p21 p22 p23 g3 p30 p31 p32 p33 g5 p50 p51 p52 p53 g6 p60 p61 p62 p63
      obtain ⟨g1, p10, p11, p12, p13⟩ := HB.dec (t := 25) (g := w1.heap.size) (a := .bool n1) (b := .int .u64 a1) (c := .int .u64 b1) (d := .int .i64 s) V (by simp)
      obtain ⟨g2, p20, p21, p22, p23⟩ := HB.dec (t := 25) (g := w2.heap.size) (a := .bool false) (b := .int .u64 a2) (c := .int .u64 b2) (d := .int .i64 t) V (by simp)
      obtain ⟨g3, p30, p31, p32, p33⟩ := HB.dec (t := 25) (g := w3.heap.size) (a := .bool n3) (b := .int .u64 a3) (c := .int .u64 b3) (d := .int .i64 t) V (by simp)
      obtain ⟨g5, p50, p51, p52, p53⟩ := HB.dec (t := 25) (g := w5.heap.size) (a := .bool n5) (b := .int .u64 a5) (c := .int .u64 b5) (d := .int .i64 t) V (by simp)
      replace V := V.push #[.bool n7, .int .u64 a7, .int .u64 b7, .int .i64 r] 25
      go_wp2_with fail
      refine (qk_c _).mono ?_
      rintro e wk ⟨_, rfl, rfl, hb⟩
      replace V := V.below hb
      clear hb
      clear g1 p10 p11 p12 p13 g2 p20 p21 p22 p23 g3 p30 p31 p32 p33 g5 p50 p51 p52 p53
      obtain ⟨g1, p10, p11, p12, p13⟩ := HB.dec (t := 25) (g := w1.heap.size) (a := .bool n1) (b := .int .u64 a1) (c := .int .u64 b1) (d := .int .i64 s) V (by simp)
      obtain ⟨g2, p20, p21, p22, p23⟩ := HB.dec (t := 25) (g := w2.heap.size) (a := .bool false) (b := .int .u64 a2) (c := .int .u64 b2) (d := .int .i64 t) V (by simp)
      obtain ⟨g3, p30, p31, p32, p33⟩ := HB.dec (t := 25) (g := w3.heap.size) (a := .bool n3) (b := .int .u64 a3) (c := .int .u64 b3) (d := .int .i64 t) V (by simp)
      obtain ⟨g5, p50, p51, p52, p53⟩ := HB.dec (t := 25) (g := w5.heap.size) (a := .bool n5) (b := .int .u64 a5) (c := .int .u64 b5) (d := .int .i64 t) V (by simp)
      obtain ⟨g7, p70, p71, p72, p73⟩ := HB.dec (t := 25) (g := w7.heap.size) (a := .bool n7) (b := .int .u64 a7) (c := .int .u64 b7) (d := .int .i64 r) V (by simp)
      go_wp2_with fail
      refine (cmp_v n5 a5 b5 t β n3 a3 b3 t β t 0 _ D5 D3 Sβ.out Sβ.out lt lt t9 t9 (Or.inr ⟨Int.le_refl _, rfl⟩) HC1.out).mono ?_
      rintro e wl ⟨_, rfl, rfl, hb⟩
      replace V := V.below hb
      clear hb
      clear g1 p10 p11 p12 p13 g2 p20 p21 p22 p23 g3 p30 p31 p32 p33 g5 p50 p51 p52 p53 g7 p70 p71 p72 p73
      obtain ⟨g1, p10, p11, p12, p13⟩ := HB.dec (t := 25) (g := w1.heap.size) (a := .bool n1) (b := .int .u64 a1) (c := .int .u64 b1) (d := .int .i64 s) V (by simp)
      obtain ⟨g2, p20, p21, p22, p23⟩ := HB.dec (t := 25) (g := w2.heap.size) (a := .bool false) (b := .int .u64 a2) (c := .int .u64 b2) (d := .int .i64 t) V (by simp)
      obtain ⟨g7, p70, p71, p72, p73⟩ := HB.dec (t := 25) (g := w7.heap.size) (a := .bool n7) (b := .int .u64 a7) (c := .int .u64 b7) (d := .int .i64 r) V (by simp)
      have hc20 := HC20.out
      go_wp2_with fail
      refine (cmp_v n7 a7 b7 r (((δ.natAbs : Nat) : Int) + ((δ.natAbs : Nat) : Int)) false a2 b2 t y r c2 _ D7 D2 S2E.out Sy.out lr lt r9 t9 (by omega) HC2.out).mono ?_
      rintro e wm ⟨_, rfl, rfl, hb⟩
      replace V := V.below hb
      clear hb
      clear g1 p10 p11 p12 p13 g2 p20 p21 p22 p23 g7 p70 p71 p72 p73
      obtain ⟨g1, p10, p11, p12, p13⟩ := HB.dec (t := 25) (g := w1.heap.size) (a := .bool n1) (b := .int .u64 a1) (c := .int .u64 b1) (d := .int .i64 s) V (by simp)
      go_wp2_with fail
      refine (pick_c _ 3000 _ (by omega) (by omega)).mono ?_
      rintro e w' ⟨_, ⟨v4, ⟨lo4, hi4⟩, rfl⟩, rfl, rfl⟩
      obtain ⟨z, ez⟩ : ∃ z : Int, 1 + v4 = z := ⟨_, rfl⟩
      have hz0 : 0 < z := by omega
      have hz3 : z ≤ 3000 := by omega
      go_wp2_with fail
      refine (refOf_c z 1 _ (by omega) (by omega) (by decide) (by decide)).mono ?_
      rintro e w8 ⟨_, ⟨n8, a8, b8, D8, rfl⟩, rfl, hb⟩
      clear lo4 hi4 ez
      obtain rfl : n8 = false := by rw [D8.1]; exact decide_eq_false (by omega)
      replace V := V.below hb
      clear hb
      clear g1 p10 p11 p12 p13
      obtain ⟨g1, p10, p11, p12, p13⟩ := HB.dec (t := 25) (g := w1.heap.size) (a := .bool n1) (b := .int .u64 a1) (c := .int .u64 b1) (d := .int .i64 s) V (by simp)
      replace V := V.push #[.bool false, .int .u64 a8, .int .u64 b8, .int .i64 1] 25
      obtain ⟨M, hM⟩ : ∃ M : Nat, divN (n1 != false) x s z 1 3 0 = M := ⟨_, rfl⟩
      have hMb : M ≤ 100000000001 := by
        rw [← hM]
        unfold divN
        refine Nat.le_trans (rd_le _ _ _ _) ?_
        have := mul_le2 Hx.out (pow4_le (k := (3 + 1 - s).toNat) (by omega))
        omega
      obtain ⟨L, hL⟩ : ∃ L : Int, zOf (n1 != false) M = L := ⟨_, rfl⟩
      have hLb : L.natAbs ≤ 100000000001 := by rw [← hL, zOf_abs]; exact hMb
      obtain ⟨ρ, hρ⟩ : ∃ ρ : Int, L * z = ρ := ⟨_, rfl⟩
      have hρb : ρ.natAbs ≤ 300000000003000 := by rw [← hρ, Int.natAbs_mul]; have := mul_le2 hLb (show z.natAbs ≤ 3000 by omega); omega
      obtain ⟨lam, hlam⟩ : ∃ lam : Int, zAt x s 4 - ρ = lam := ⟨_, rfl⟩
      have hleft := units_left (n := n1) (x := x) (s := s) (z := z) (mo := z) (lam := lam) (M := M) D1.1 hz0 ls Hs3.out (by rw [← hM, neq_false]) (by rw [neq_false] at hL; rw [hL, hρ]; exact hlam) rfl
      have hxz : (x * z).natAbs ≤ 30000000000 := by rw [Int.natAbs_mul]; have := mul_le2 Hx.out (show z.natAbs ≤ 3000 by omega); omega
      obtain ⟨X, hX⟩ : ∃ X, zAt (x * z) (s + 1) 9 = X := ⟨_, rfl⟩
      have hXb : X.natAbs ≤ 30000000000000000000 := by
        rw [← hX, zAt_abs]
        have h9 : 10 ^ (9 - (s + 1)).toNat ≤ 10 ^ 8 := Nat.pow_le_pow_right (n := 10) (by decide) (show (9 - (s + 1)).toNat ≤ 8 by omega)
        have := mul_le2 hxz h9
        omega
      have Sz := Lib.hid (show Sm z by unfold Sm; omega)
      have SL := Lib.hid (show Sm L by unfold Sm; omega)
      have Sρ := Lib.hid (show Sm ρ by unfold Sm; omega)
      have Sl := Lib.hid (show Sm lam by unfold Sm; omega)
      have SF := Lib.hid (show Sm ((lam.natAbs : Nat) : Int) by unfold Sm; omega)
      have Sxz := Lib.hid (show Sm (x * z) by unfold Sm; omega)
      have SX := Lib.hid (show Sm X by unfold Sm; omega)
      have HMb := Lib.hid (show M < 1000000000000000000000000000000 by omega)
      have HLz := Lib.hid (show L.natAbs * z.natAbs < 1000000000000000000000000000000 by rw [← Int.natAbs_mul, hρ]; omega)
      have Hxz := Lib.hid (show x.natAbs * z.natAbs < 1000000000000000000000000000000 by rw [← Int.natAbs_mul]; omega)
      have HC3 := Lib.hid (show cmpZ (zAt ((lam.natAbs : Nat) : Int) 4 4) (zAt z 4 4) = -1 by rw [zAt_self, zAt_self]; exact cmpZ_lt hleft)
      have HC4 := Lib.hid (show cmpZ (zAt X 9 9) (zAt (x * z) (s + 1) 9) = 0 by rw [zAt_self, hX]; exact cmpZ_self _)
      have HMe := Lib.hid hM
      have HLe := Lib.hid hL
      have Hρe := Lib.hid hρ
      have Hle := Lib.hid hlam
      have HXe := Lib.hid hX
      clear hM hL hρ hlam hX hMb hLb hρb hleft hxz hXb hz3
      go_wp2_with fail
      refine (div_q n1 a1 b1 s x false a8 b8 1 z 3 0 _ D1 D8 (sm_30 Sx.out) Sz.out (by omega) ls (by decide) s9 (by decide) (by decide) (by decide) (by decide) M HMe.out HMb.out).mono ?_
      rintro e w9 ⟨_, ⟨n9, a9, b9, D9, rfl⟩, rfl, hb⟩
      rw [HLe.out] at D9
      replace V := V.below hb
      clear hb
      clear g1 p10 p11 p12 p13
      obtain ⟨g1, p10, p11, p12, p13⟩ := HB.dec (t := 25) (g := w1.heap.size) (a := .bool n1) (b := .int .u64 a1) (c := .int .u64 b1) (d := .int .i64 s) V (by simp)
      obtain ⟨g8, p80, p81, p82, p83⟩ := HB.dec (t := 25) (g := w8.heap.size) (a := .bool false) (b := .int .u64 a8) (c := .int .u64 b8) (d := .int .i64 1) V (by simp)
      replace V := V.push #[.bool n9, .int .u64 a9, .int .u64 b9, .int .i64 3] 25
      go_wp2_with fail
      refine (mul_d n9 a9 b9 3 L false a8 b8 1 z _ D9 D8 (sm_30 SL.out) (sm_30 Sz.out) (by decide) (by decide) (by decide) HLz.out).mono ?_
      rintro e w10 ⟨_, ⟨n10, a10, b10, D10, rfl⟩, rfl, hb⟩
      rw [Hρe.out] at D10
      rw [show (3 : Int) + 1 = 4 from rfl]
      replace V := V.below hb
      clear hb
      clear g1 p10 p11 p12 p13 g8 p80 p81 p82 p83
      obtain ⟨g1, p10, p11, p12, p13⟩ := HB.dec (t := 25) (g := w1.heap.size) (a := .bool n1) (b := .int .u64 a1) (c := .int .u64 b1) (d := .int .i64 s) V (by simp)
      obtain ⟨g8, p80, p81, p82, p83⟩ := HB.dec (t := 25) (g := w8.heap.size) (a := .bool false) (b := .int .u64 a8) (c := .int .u64 b8) (d := .int .i64 1) V (by simp)
      replace V := V.push #[.bool n10, .int .u64 a10, .int .u64 b10, .int .i64 4] 25
      go_wp2_with fail
      refine (sub_d n1 a1 b1 s x n10 a10 b10 4 ρ 4 _ D10 D1 Sx.out Sρ.out ls (by decide) s9 (by decide) (by omega)).mono ?_
      rintro e w11 ⟨_, ⟨n11, a11, b11, D11, rfl⟩, rfl, hb⟩
      rw [zAt_self, Hle.out] at D11
      replace V := V.below hb
      clear hb
      clear g1 p10 p11 p12 p13 g8 p80 p81 p82 p83
      obtain ⟨g1, p10, p11, p12, p13⟩ := HB.dec (t := 25) (g := w1.heap.size) (a := .bool n1) (b := .int .u64 a1) (c := .int .u64 b1) (d := .int .i64 s) V (by simp)
      obtain ⟨g8, p80, p81, p82, p83⟩ := HB.dec (t := 25) (g := w8.heap.size) (a := .bool false) (b := .int .u64 a8) (c := .int .u64 b8) (d := .int .i64 1) V (by simp)
      have HG11 := Lib.hid V.1.size
      replace V := V.push #[.bool n11, .int .u64 a11, .int .u64 b11, .int .i64 4] 25
      have hl13 := g1
      have VV : HB w [(w11.heap.size, 25, #[.bool n11, .int .u64 a11, .int .u64 b11, .int .i64 4]), (w8.heap.size, 25, #[.bool false, .int .u64 a8, .int .u64 b8, .int .i64 1]), (w1.heap.size, 25, #[.bool n1, .int .u64 a1, .int .u64 b1, .int .i64 s])] (w11.alloc (.cells #[.bool n11, .int .u64 a11, .int .u64 b11, .int .i64 4] 25)) := HB.sub V (by simp)
      have hsz8 := g8
      clear V
      clear g1 p10 p11 p12 p13 g8 p80 p81 p82 p83
      have D1o : DecIs false 1 0 1 := dec_pos (by decide) (by decide)
      have D8m : DecIs false a8 b8 (z * 1) := by rw [Int.mul_one]; exact D8
      have RO := Lib.hid (show ∀ wq : World, Calls Try.prog 20 #[.int .i64 1, .int .i64 3] wq (Ret wq (· = .agg #[.bool false, .int .u64 1, .int .u64 0, .int .i64 3])) from fun wq => refOf_v 1 3 false 1 0 wq (by decide) (by decide) (by decide) (by decide) D1o)
      have RM := Lib.hid (show ∀ wq : World, Calls Try.prog 21 #[.agg #[.bool false, .int .u64 a8, .int .u64 b8, .int .i64 1], .agg #[.bool false, .int .u64 1, .int .u64 0, .int .i64 3]] wq (Ret wq (· = .tuple #[.agg #[.bool false, .int .u64 a8, .int .u64 b8, .int .i64 4], .int .i64 0])) from fun wq => mul_v false a8 b8 1 z false 1 0 3 1 false a8 b8 wq D8 D1o D8m (sm_30 Sz.out) (by decide) (by decide) (by decide) (by decide) (by rw [show (1 : Int).natAbs = 1 from rfl, Nat.mul_one]; exact sm_30 Sz.out))
      go_upto_region 17 with fail
      go_cut [32, 33] (fun s' t' wx => ∃ gm : Nat, s' = .pointer (some ⟨gm, 0, none⟩) ∧ t' = .int .i64 0 ∧ w11.heap.size < gm ∧ HB w ((gm, 25, #[.bool false, .int .u64 a8, .int .u64 b8, .int .i64 4]) :: [(w11.heap.size, 25, #[.bool n11, .int .u64 a11, .int .u64 b11, .int .i64 4]), (w8.heap.size, 25, #[.bool false, .int .u64 a8, .int .u64 b8, .int .i64 1]), (w1.heap.size, 25, #[.bool n1, .int .u64 a1, .int .u64 b1, .int .i64 s])]) wx)
      case first =>
        have hs8 := hsz8
        have hs1 := hl13
        have hs0 := HG11.out
        go_region_held3 (fun w' => HB w [(w11.heap.size, 25, #[.bool n11, .int .u64 a11, .int .u64 b11, .int .i64 4]), (w8.heap.size, 25, #[.bool false, .int .u64 a8, .int .u64 b8, .int .i64 1]), (w1.heap.size, 25, #[.bool n1, .int .u64 a1, .int .u64 b1, .int .i64 s])] w' ∧ (w'.cell? ⟨w8.heap.size, 0, none⟩ = some (.bool false) ∧ w'.cell? ⟨w8.heap.size, 1, none⟩ = some (.int .u64 a8) ∧ w'.cell? ⟨w8.heap.size, 2, none⟩ = some (.int .u64 b8) ∧ w'.cell? ⟨w8.heap.size, 3, none⟩ = some (.int .i64 1)))
          ((refine usMk ?_; repeat (first | (with_reducible exact HWm) | (with_reducible exact HWo) | (with_reducible exact VV) | (with_reducible refine HB.drew ?_) | (with_reducible refine HB.alloc ?_ _) | ((with_reducible refine HB.set_ ?_ ?_ ?_ _); rotate_left; (focus (simp; omega)); (focus (simp; omega))))))
          (first
            | (go_at_call 20; (with_reducible refine (RO.out _).mono ?_); rintro e wo ⟨_, rfl, rfl, hbo⟩; have HWo := keepB hbo (by assumption); have HBo := HB.bel HWo; have hszo := hbo.size; (try simp at hszo); (try ((refine rd_cutp (P := Blk wo (w11.heap.size + 1) 25 #[.bool false, .int .u64 0, .int .u64 0, .int .i64 0]) ?_ ?_); (focus ((refine Blk.below ?_ hbo ?_); (focus ((repeat (first | (with_reducible assumption) | ((with_reducible refine Blk.new_at ?_); (simp; done)) | (with_reducible refine Blk.drew ?_) | (with_reducible refine Blk.alloc ?_ _))); done)); (first | omega | (simp; done) | (simp; omega)))); intro A; have lA := A.lt; have A0 := A.cell 0; have A1 := A.cell 1; have A2 := A.cell 2; have A3 := A.cell 3; have fA0 := A.frozen 0; have fA1 := A.frozen 1; have fA2 := A.frozen 2; have fA3 := A.frozen 3; simp at A0 A1 A2 A3)); clear hbo)
            | (go_at_call 21; (with_reducible refine (RM.out _).mono ?_); rintro e wu ⟨_, rfl, rfl, hbu⟩; have HWm := keepB hbu (by assumption); have HBm := HB.bel HWm; have hszu := hbu.size; (try simp at hszu); (try ((refine rd_cutp (P := Blk wu (w11.heap.size + 1) 25 #[.bool false, .int .u64 0, .int .u64 0, .int .i64 0]) ?_ ?_); (focus ((refine Blk.below ?_ hbu ?_); (focus ((repeat (first | (with_reducible assumption) | ((with_reducible refine Blk.new_at ?_); (simp; done)) | (with_reducible refine Blk.drew ?_) | (with_reducible refine Blk.alloc ?_ _))); done)); (first | omega | (simp; done) | (simp; omega)))); intro B; have lB := B.lt; have B0 := B.cell 0; have B1 := B.cell 1; have B2 := B.cell 2; have B3 := B.cell 3; have fB0 := B.frozen 0; have fB1 := B.frozen 1; have fB2 := B.frozen 2; have fB3 := B.frozen 3; simp at B0 B1 B2 B3)); (try ((refine rd_cutp (P := Blk wu (wo.heap.size) 25 #[.bool false, .int .u64 0, .int .u64 0, .int .i64 0]) ?_ ?_); (focus ((refine Blk.below ?_ hbu ?_); (focus ((repeat (first | (with_reducible assumption) | ((with_reducible refine Blk.new_at ?_); (simp; done)) | (with_reducible refine Blk.drew ?_) | (with_reducible refine Blk.alloc ?_ _))); done)); (first | omega | (simp; done) | (simp; omega)))); intro C; have lC := C.lt; have C0 := C.cell 0; have C1 := C.cell 1; have C2 := C.cell 2; have C3 := C.cell 3; have fC0 := C.frozen 0; have fC1 := C.frozen 1; have fC2 := C.frozen 2; have fC3 := C.frozen 3; simp at C0 C1 C2 C3)); clear hbu))
        all_goals
          go_wp2_with fail
          go_meet
          case rel =>
            refine ⟨_, rfl, rfl, ?_, ?_, ?_⟩
            · first | omega | (simp; omega)
            · repeat (first | (with_reducible exact HBm) | (with_reducible refine bel_alloc ?_ _) | ((with_reducible refine Below.setCell ?_ ?_ _); rotate_left; (focus (simp; omega))))
            · intro b hb
              rcases List.mem_cons.1 hb with rfl | hb
              · dsimp only
                repeat (first | ((with_reducible refine Blk.new_at ?_); (simp; done)) | (with_reducible refine Blk.alloc ?_ _) | (with_reducible exact rd_set4 B) | (with_reducible exact rd_set4 C) | (with_reducible refine rd_set4 (a := .bool false) (b := .int .u64 0) (c := .int .u64 0) (d := .int .i64 0) ?_))
              · have BR := HWm.2 b hb
                have hbl : b.1 < w11.heap.size + 1 := by
                  simp at hb
                  rcases hb with rfl | rfl | rfl <;> (dsimp only; omega)
                clear hb
                obtain ⟨bg, bt, bc⟩ := b
                dsimp only at BR hbl ⊢
                repeat (first | (with_reducible exact BR) | (with_reducible refine Blk.alloc ?_ _) | (refine Blk.far (p := ⟨_, _, none⟩) ?_ (by first | (simp; done) | (simp; omega) | omega) _))
      case rest =>
        clear VV
        obtain ⟨gm, rfl, rfl, hgm, V⟩ := hcut
        rcases Int.lt_or_le lam 0 with hd | hd
        · as_aux_lemma =>
            obtain ⟨τ, hτ⟩ : ∃ τ, lam.sign = τ := ⟨_, rfl⟩
            have hτ0 : τ < 0 := by rw [← hτ, Int.sign_eq_neg_one_of_neg hd]; decide
            have HT := Lib.hid hτ
            clear hτ
            have Hd2 := Lib.hid hd
            clear hd
            obtain ⟨g1, p10, p11, p12, p13⟩ := HB.dec (t := 25) (g := w1.heap.size) (a := .bool n1) (b := .int .u64 a1) (c := .int .u64 b1) (d := .int .i64 s) V (by simp)
            obtain ⟨g8, p80, p81, p82, p83⟩ := HB.dec (t := 25) (g := w8.heap.size) (a := .bool false) (b := .int .u64 a8) (c := .int .u64 b8) (d := .int .i64 1) V (by simp)
            obtain ⟨g11, p110, p111, p112, p113⟩ := HB.dec (t := 25) (g := w11.heap.size) (a := .bool n11) (b := .int .u64 a11) (c := .int .u64 b11) (d := .int .i64 4) V (by simp)
            obtain ⟨g12, p120, p121, p122, p123⟩ := HB.dec (t := 25) (g := gm) (a := .bool false) (b := .int .u64 a8) (c := .int .u64 b8) (d := .int .i64 4) V (by simp)
            go_wp2_with fail
            refine (sign_v n11 a11 b11 4 lam τ _ D11 (sm_30 Sl.out) (by decide) (by decide) HT.out).mono ?_
            rintro e wp ⟨_, rfl, rfl, hb⟩
            replace V := V.below hb
            clear hb
            clear g1 p10 p11 p12 p13 g8 p80 p81 p82 p83 g11 p110 p111 p112 p113 g12 p120 p121 p122 p123
            obtain ⟨g1, p10, p11, p12, p13⟩ := HB.dec (t := 25) (g := w1.heap.size) (a := .bool n1) (b := .int .u64 a1) (c := .int .u64 b1) (d := .int .i64 s) V (by simp)
            obtain ⟨g8, p80, p81, p82, p83⟩ := HB.dec (t := 25) (g := w8.heap.size) (a := .bool false) (b := .int .u64 a8) (c := .int .u64 b8) (d := .int .i64 1) V (by simp)
            obtain ⟨g11, p110, p111, p112, p113⟩ := HB.dec (t := 25) (g := w11.heap.size) (a := .bool n11) (b := .int .u64 a11) (c := .int .u64 b11) (d := .int .i64 4) V (by simp)
            obtain ⟨g12, p120, p121, p122, p123⟩ := HB.dec (t := 25) (g := gm) (a := .bool false) (b := .int .u64 a8) (c := .int .u64 b8) (d := .int .i64 4) V (by simp)
            go_wp2_with fail
            refine (neg_d n11 a11 b11 4 lam _ D11 (sm_30 Sl.out) (by decide) (by decide)).mono ?_
            rintro e wq ⟨_, ⟨n17, a17, b17, D17, rfl⟩, rfl, hb⟩
            have e9 : ((lam.natAbs : Nat) : Int) = -lam := by have := Hd2.out; omega
            have Df : DecIs n17 a17 b17 ((lam.natAbs : Nat) : Int) := by rw [e9]; exact D17
            clear e9 D17
            replace V := V.below hb
            clear hb
            clear g1 p10 p11 p12 p13 g8 p80 p81 p82 p83 g11 p110 p111 p112 p113 g12 p120 p121 p122 p123
            have Bo := HB.blk (g := w11.heap.size) (t := 25) (cs := #[.bool n11, .int .u64 a11, .int .u64 b11, .int .i64 4]) V (by simp)
            obtain ⟨g1, p10, p11, p12, p13⟩ := HB.dec (t := 25) (g := w1.heap.size) (a := .bool n1) (b := .int .u64 a1) (c := .int .u64 b1) (d := .int .i64 s) V (by simp)
            obtain ⟨g8, p80, p81, p82, p83⟩ := HB.dec (t := 25) (g := w8.heap.size) (a := .bool false) (b := .int .u64 a8) (c := .int .u64 b8) (d := .int .i64 1) V (by simp)
            obtain ⟨g12, p120, p121, p122, p123⟩ := HB.dec (t := 25) (g := gm) (a := .bool false) (b := .int .u64 a8) (c := .int .u64 b8) (d := .int .i64 4) V (by simp)
            obtain ⟨g11, p110, p111, p112, p113⟩ := HB.dec (t := 25) (g := w11.heap.size) (a := .bool n11) (b := .int .u64 a11) (c := .int .u64 b11) (d := .int .i64 4) V (by simp)
            have hne : ∀ b0 ∈ ([(gm, 25, #[.bool false, .int .u64 a8, .int .u64 b8, .int .i64 4]), (w8.heap.size, 25, #[.bool false, .int .u64 a8, .int .u64 b8, .int .i64 1]), (w1.heap.size, 25, #[.bool n1, .int .u64 a1, .int .u64 b1, .int .i64 s])] : List (Nat × TypeId × Array Value)), b0.1 ≠ w11.heap.size := by
              intro b0 hb
              simp at hb
              rcases hb with rfl | rfl | rfl <;> (dsimp only; omega)
            have V2 := HB.set4 (g := w11.heap.size) (t := 25) (bs := [(gm, 25, #[.bool false, .int .u64 a8, .int .u64 b8, .int .i64 4]), (w8.heap.size, 25, #[.bool false, .int .u64 a8, .int .u64 b8, .int .i64 1]), (w1.heap.size, 25, #[.bool n1, .int .u64 a1, .int .u64 b1, .int .i64 s])]) (a' := .bool n17) (b' := .int .u64 a17) (c' := .int .u64 b17) (d' := .int .i64 4) (HB.sub V (by simp)) Bo HG11.out hne
            have fz0 := Bo.frozen 0
            have fz1 := Bo.frozen 1
            have fz2 := Bo.frozen 2
            have fz3 := Bo.frozen 3
            have ne1 : ¬ w1.heap.size = w11.heap.size := by omega
            have ne8 : ¬ w8.heap.size = w11.heap.size := by omega
            clear V Bo hne
            have V := V2
            clear V2
            go_wp2_with fail
            refine (times_up n1 a1 b1 s x false a8 b8 1 z 9 0 _ D1 D8 Sx.out Sz.out ls (by decide) s9 (by decide) (by decide) (by decide) (by decide) (by omega) Sxz.out).mono ?_
            rintro e w13 ⟨_, ⟨n13, a13, b13, D13, rfl⟩, rfl, hb⟩
            rw [HXe.out] at D13
            replace V := V.below hb
            clear hb
            clear g1 p10 p11 p12 p13 g8 p80 p81 p82 p83 g12 p120 p121 p122 p123 g11 p110 p111 p112 p113
            clear fz0 fz1 fz2 fz3 ne1 ne8
            obtain ⟨g1, p10, p11, p12, p13⟩ := HB.dec (t := 25) (g := w1.heap.size) (a := .bool n1) (b := .int .u64 a1) (c := .int .u64 b1) (d := .int .i64 s) V (by simp)
            obtain ⟨g8, p80, p81, p82, p83⟩ := HB.dec (t := 25) (g := w8.heap.size) (a := .bool false) (b := .int .u64 a8) (c := .int .u64 b8) (d := .int .i64 1) V (by simp)
            obtain ⟨g11, p110, p111, p112, p113⟩ := HB.dec (t := 25) (g := w11.heap.size) (a := .bool n17) (b := .int .u64 a17) (c := .int .u64 b17) (d := .int .i64 4) V (by simp)
            obtain ⟨g12, p120, p121, p122, p123⟩ := HB.dec (t := 25) (g := gm) (a := .bool false) (b := .int .u64 a8) (c := .int .u64 b8) (d := .int .i64 4) V (by simp)
            replace V := V.push #[.bool n13, .int .u64 a13, .int .u64 b13, .int .i64 9] 25
            go_wp2_with fail
            refine (mul_d n1 a1 b1 s x false a8 b8 1 z _ D1 D8 (sm_30 Sx.out) (sm_30 Sz.out) ls (by decide) (by omega) Hxz.out).mono ?_
            rintro e w14 ⟨_, ⟨n14, a14, b14, D14, rfl⟩, rfl, hb⟩
            replace V := V.below hb
            clear hb
            clear g1 p10 p11 p12 p13 g8 p80 p81 p82 p83 g11 p110 p111 p112 p113 g12 p120 p121 p122 p123
            obtain ⟨g11, p110, p111, p112, p113⟩ := HB.dec (t := 25) (g := w11.heap.size) (a := .bool n17) (b := .int .u64 a17) (c := .int .u64 b17) (d := .int .i64 4) V (by simp)
            obtain ⟨g12, p120, p121, p122, p123⟩ := HB.dec (t := 25) (g := gm) (a := .bool false) (b := .int .u64 a8) (c := .int .u64 b8) (d := .int .i64 4) V (by simp)
            obtain ⟨g13, p130, p131, p132, p133⟩ := HB.dec (t := 25) (g := w13.heap.size) (a := .bool n13) (b := .int .u64 a13) (c := .int .u64 b13) (d := .int .i64 9) V (by simp)
            replace V := V.push #[.bool n14, .int .u64 a14, .int .u64 b14, .int .i64 (s + 1)] 25
            go_wp2_with fail
            refine (cmp_v n17 a17 b17 4 ((lam.natAbs : Nat) : Int) false a8 b8 4 z 4 (-1) _ Df D8 SF.out Sz.out (by decide) (by decide) (by decide) (by decide) (by decide) HC3.out).mono ?_
            rintro e wr ⟨_, rfl, rfl, hb⟩
            replace V := V.below hb
            clear hb
            clear g11 p110 p111 p112 p113 g12 p120 p121 p122 p123 g13 p130 p131 p132 p133
            obtain ⟨g13, p130, p131, p132, p133⟩ := HB.dec (t := 25) (g := w13.heap.size) (a := .bool n13) (b := .int .u64 a13) (c := .int .u64 b13) (d := .int .i64 9) V (by simp)
            obtain ⟨g14, p140, p141, p142, p143⟩ := HB.dec (t := 25) (g := w14.heap.size) (a := .bool n14) (b := .int .u64 a14) (c := .int .u64 b14) (d := .int .i64 (s + 1)) V (by simp)
            go_wp2_with fail
            refine (cmp_v n13 a13 b13 9 X n14 a14 b14 (s + 1) (x * z) 9 0 _ D13 D14 SX.out Sxz.out (by decide) (by omega) (by decide) (by omega) (by omega) HC4.out).mono ?_
            rintro e wt ⟨_, rfl, rfl, hb⟩
            replace V := V.below hb
            clear hb
            clear g13 p130 p131 p132 p133 g14 p140 p141 p142 p143
            have HB1 := Lib.hid V.1
            clear V
            go_wp2
            go_ret
            exact ⟨rfl, HB1.out⟩
        · as_aux_lemma =>
            obtain ⟨τ, hτ⟩ : ∃ τ, lam.sign = τ := ⟨_, rfl⟩
            have hτ0 : ¬ τ < 0 := by
              rw [← hτ]
              rcases Int.lt_or_eq_of_le hd with h | h
              · rw [Int.sign_eq_one_of_pos h]; decide
              · rw [← h]; decide
            have HT := Lib.hid hτ
            clear hτ
            have Hd2 := Lib.hid hd
            clear hd
            obtain ⟨g1, p10, p11, p12, p13⟩ := HB.dec (t := 25) (g := w1.heap.size) (a := .bool n1) (b := .int .u64 a1) (c := .int .u64 b1) (d := .int .i64 s) V (by simp)
            obtain ⟨g8, p80, p81, p82, p83⟩ := HB.dec (t := 25) (g := w8.heap.size) (a := .bool false) (b := .int .u64 a8) (c := .int .u64 b8) (d := .int .i64 1) V (by simp)
            obtain ⟨g11, p110, p111, p112, p113⟩ := HB.dec (t := 25) (g := w11.heap.size) (a := .bool n11) (b := .int .u64 a11) (c := .int .u64 b11) (d := .int .i64 4) V (by simp)
            obtain ⟨g12, p120, p121, p122, p123⟩ := HB.dec (t := 25) (g := gm) (a := .bool false) (b := .int .u64 a8) (c := .int .u64 b8) (d := .int .i64 4) V (by simp)
            go_wp2_with fail
            refine (sign_v n11 a11 b11 4 lam τ _ D11 (sm_30 Sl.out) (by decide) (by decide) HT.out).mono ?_
            rintro e wp ⟨_, rfl, rfl, hb⟩
            replace V := V.below hb
            clear hb
            clear g1 p10 p11 p12 p13 g8 p80 p81 p82 p83 g11 p110 p111 p112 p113 g12 p120 p121 p122 p123
            obtain ⟨g1, p10, p11, p12, p13⟩ := HB.dec (t := 25) (g := w1.heap.size) (a := .bool n1) (b := .int .u64 a1) (c := .int .u64 b1) (d := .int .i64 s) V (by simp)
            obtain ⟨g8, p80, p81, p82, p83⟩ := HB.dec (t := 25) (g := w8.heap.size) (a := .bool false) (b := .int .u64 a8) (c := .int .u64 b8) (d := .int .i64 1) V (by simp)
            obtain ⟨g11, p110, p111, p112, p113⟩ := HB.dec (t := 25) (g := w11.heap.size) (a := .bool n11) (b := .int .u64 a11) (c := .int .u64 b11) (d := .int .i64 4) V (by simp)
            obtain ⟨g12, p120, p121, p122, p123⟩ := HB.dec (t := 25) (g := gm) (a := .bool false) (b := .int .u64 a8) (c := .int .u64 b8) (d := .int .i64 4) V (by simp)
            have e9 : ((lam.natAbs : Nat) : Int) = lam := by have := Hd2.out; omega
            have Df : DecIs n11 a11 b11 ((lam.natAbs : Nat) : Int) := by rw [e9]; exact D11
            clear e9
            go_wp2_with fail
            refine (times_up n1 a1 b1 s x false a8 b8 1 z 9 0 _ D1 D8 Sx.out Sz.out ls (by decide) s9 (by decide) (by decide) (by decide) (by decide) (by omega) Sxz.out).mono ?_
            rintro e w13 ⟨_, ⟨n13, a13, b13, D13, rfl⟩, rfl, hb⟩
            rw [HXe.out] at D13
            replace V := V.below hb
            clear hb
            clear g1 p10 p11 p12 p13 g8 p80 p81 p82 p83 g11 p110 p111 p112 p113 g12 p120 p121 p122 p123
            obtain ⟨g1, p10, p11, p12, p13⟩ := HB.dec (t := 25) (g := w1.heap.size) (a := .bool n1) (b := .int .u64 a1) (c := .int .u64 b1) (d := .int .i64 s) V (by simp)
            obtain ⟨g8, p80, p81, p82, p83⟩ := HB.dec (t := 25) (g := w8.heap.size) (a := .bool false) (b := .int .u64 a8) (c := .int .u64 b8) (d := .int .i64 1) V (by simp)
            obtain ⟨g11, p110, p111, p112, p113⟩ := HB.dec (t := 25) (g := w11.heap.size) (a := .bool n11) (b := .int .u64 a11) (c := .int .u64 b11) (d := .int .i64 4) V (by simp)
            obtain ⟨g12, p120, p121, p122, p123⟩ := HB.dec (t := 25) (g := gm) (a := .bool false) (b := .int .u64 a8) (c := .int .u64 b8) (d := .int .i64 4) V (by simp)
            replace V := V.push #[.bool n13, .int .u64 a13, .int .u64 b13, .int .i64 9] 25
            go_wp2_with fail
            refine (mul_d n1 a1 b1 s x false a8 b8 1 z _ D1 D8 (sm_30 Sx.out) (sm_30 Sz.out) ls (by decide) (by omega) Hxz.out).mono ?_
            rintro e w14 ⟨_, ⟨n14, a14, b14, D14, rfl⟩, rfl, hb⟩
            replace V := V.below hb
            clear hb
            clear g1 p10 p11 p12 p13 g8 p80 p81 p82 p83 g11 p110 p111 p112 p113 g12 p120 p121 p122 p123
            obtain ⟨g11, p110, p111, p112, p113⟩ := HB.dec (t := 25) (g := w11.heap.size) (a := .bool n11) (b := .int .u64 a11) (c := .int .u64 b11) (d := .int .i64 4) V (by simp)
            obtain ⟨g12, p120, p121, p122, p123⟩ := HB.dec (t := 25) (g := gm) (a := .bool false) (b := .int .u64 a8) (c := .int .u64 b8) (d := .int .i64 4) V (by simp)
            obtain ⟨g13, p130, p131, p132, p133⟩ := HB.dec (t := 25) (g := w13.heap.size) (a := .bool n13) (b := .int .u64 a13) (c := .int .u64 b13) (d := .int .i64 9) V (by simp)
            replace V := V.push #[.bool n14, .int .u64 a14, .int .u64 b14, .int .i64 (s + 1)] 25
            go_wp2_with fail
            refine (cmp_v n11 a11 b11 4 ((lam.natAbs : Nat) : Int) false a8 b8 4 z 4 (-1) _ Df D8 SF.out Sz.out (by decide) (by decide) (by decide) (by decide) (by decide) HC3.out).mono ?_
            rintro e wr ⟨_, rfl, rfl, hb⟩
            replace V := V.below hb
            clear hb
            clear g11 p110 p111 p112 p113 g12 p120 p121 p122 p123 g13 p130 p131 p132 p133
            obtain ⟨g13, p130, p131, p132, p133⟩ := HB.dec (t := 25) (g := w13.heap.size) (a := .bool n13) (b := .int .u64 a13) (c := .int .u64 b13) (d := .int .i64 9) V (by simp)
            obtain ⟨g14, p140, p141, p142, p143⟩ := HB.dec (t := 25) (g := w14.heap.size) (a := .bool n14) (b := .int .u64 a14) (c := .int .u64 b14) (d := .int .i64 (s + 1)) V (by simp)
            go_wp2_with fail
            refine (cmp_v n13 a13 b13 9 X n14 a14 b14 (s + 1) (x * z) 9 0 _ D13 D14 SX.out Sxz.out (by decide) (by omega) (by decide) (by omega) (by omega) HC4.out).mono ?_
            rintro e wt ⟨_, rfl, rfl, hb⟩
            replace V := V.below hb
            clear hb
            clear g13 p130 p131 p132 p133 g14 p140 p141 p142 p143
            have HB1 := Lib.hid V.1
            clear V
            go_wp2
            go_ret
            exact ⟨rfl, HB1.out⟩

set_option maxRecDepth 100000 in
theorem lifted (os : Os) (started : os.Started) (H : Type) (enc : TypeId × Value → H) :
    ReturnsInHanded {} Try.checked os 4 .any (Rows.quantUnitsSpec.pre6 enc Try.prog Try.f4 Rows.quantUnitsRow.domain false) (Rows.quantUnitsSpec.post enc Try.prog Try.f4 false true false false) := by
  refine returnsInHanded_of_change (C := Try.checked) own started (by kernel_rfl) Try.func4
    (ChangeSpec.witness6 (enc := enc) (C := Try.checked) false ⟨#[], #[.int .i64 0, .int .i64 0, .int .i64 0, .int .i64 0, .int .i64 0, .int .i64 0], []⟩ 8 (by kernel_rfl) (by kernel_rfl) (by kernel_rfl) (by kernel_rfl)) ?_
  intro W base args ds gs before hval0 hW hcnd _
  have hval : ∀ (j : Nat) t v, Try.f4.params[j]? = some t → args[j]? = some v → Value.okWide Try.prog W .any base t v := hval0
  have hW' := hW
  obtain ⟨p, q, hA0, hV, rfl, hfz, hnd⟩ := hW
  have hA : DataW.TrodAll enc Try.prog W 0 (fun _ => true) true Try.f4.params.toList args.toList ds p := hA0
  rw [Try.params4] at hA hval
  obtain ⟨v0, vs0, d0, ds0, p0, q0, hargs, rfl, rfl, h0, r0⟩ := trodAll_cons hA
  obtain ⟨v1, vs1, d1, ds1, p1, q1, rfl, rfl, rfl, h1, r1⟩ := trodAll_cons r0
  obtain ⟨v2, vs2, d2, ds2, p2, q2, rfl, rfl, rfl, h2, r2⟩ := trodAll_cons r1
  obtain ⟨v3, vs3, d3, ds3, p3, q3, rfl, rfl, rfl, h3, r3⟩ := trodAll_cons r2
  obtain ⟨v4, vs4, d4, ds4, p4, q4, rfl, rfl, rfl, h4, r4⟩ := trodAll_cons r3
  obtain ⟨v5, vs5, d5, ds5, p5, q5, rfl, rfl, rfl, h5, r5⟩ := trodAll_cons r4
  obtain ⟨rfl, rfl, rfl⟩ := trodAll_nil r5
  obtain rfl : args = #[v0, v1, v2, v3, v4, v5] := by cases args; simp_all
  obtain ⟨rfl, rfl⟩ := trodVars_none hV
  obtain ⟨a0, rfl, rfl, rfl, w0⟩ := open_int Try.underlying3 (hval 0 3 v0 rfl rfl) h0
  obtain ⟨a1, rfl, rfl, rfl, w1⟩ := open_int Try.underlying3 (hval 1 3 v1 rfl rfl) h1
  obtain ⟨a2, rfl, rfl, rfl, w2⟩ := open_int Try.underlying3 (hval 2 3 v2 rfl rfl) h2
  obtain ⟨a3, rfl, rfl, rfl, w3⟩ := open_int Try.underlying3 (hval 3 3 v3 rfl rfl) h3
  obtain ⟨a4, rfl, rfl, rfl, w4⟩ := open_int Try.underlying3 (hval 4 3 v4 rfl rfl) h4
  obtain ⟨a5, rfl, rfl, rfl, w5⟩ := open_int Try.underlying3 (hval 5 3 v5 rfl rfl) h5
  clear hA0 hval0
  simp only [List.append_nil] at hW'
  refine (walk a0 a1 a2 a3 a4 a5 w0 w1 w2 w3 w4 w5 W).mono fun e W' ⟨he, hg⟩ => ?_
  subst he
  exact ⟨_, rfl, post_bel (pa := []) (pv := []) hW' (fun _ _ _ => (trodAll_cons_mk (shut_bool Try.underlying4 _) trodAll_mk0)) (fun sp _ => (trodAll_cons_mk (shut_int Try.underlying3 w0) (trodAll_cons_mk (shut_int Try.underlying3 w1) (trodAll_cons_mk (shut_int Try.underlying3 w2) (trodAll_cons_mk (shut_int Try.underlying3 w3) (trodAll_cons_mk (shut_int Try.underlying3 w4) (trodAll_cons_mk (shut_int Try.underlying3 w5) trodAll_mk0))))))) (fun _ _ => rfl) rfl
    hg (ok_one (by kernel_rfl) rfl (okWide_bool_mk Try.underlying4 _))⟩

theorem over : Rows.quantUnitsRow.holds Try.pinned (OpenSpec.ofChange Rows.quantUnitsSpec) :=
  OpenClaim.holds_of_wide 4 Try.f4 rfl rfl rfl rfl rfl rfl rfl ⟨rfl, rfl, rfl, rfl, rfl⟩ rfl rfl rfl rfl rfl (by kernel_rfl) Try.func4 (by kernel_rfl)
    (of_decide_eq_true (by kernel_rfl)) (by unfold Func.isWrapper; first | (rw [if_pos (by decide +kernel)]; kernel_rfl) | (rw [if_neg (by decide +kernel)]; exact ⟨rfl, rfl⟩))
    (fun os started H enc _ => lifted os started H enc)

/-- The given statement. -/
theorem proved : Rows.QuantUnitsSaid :=
  over
#print axioms proved
end Go.Proofs.Ytnefckiaojhcdaa.quantUnits

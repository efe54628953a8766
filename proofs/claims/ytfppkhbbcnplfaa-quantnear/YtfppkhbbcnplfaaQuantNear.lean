/- For every input 'QuantNear' returns true and leaves its arguments as they were. No condition. -/
import Derived.Test.YtfppkhbbcnplfaaRows
import Derived.WalkKit
import Derived.ProofKit
import Derived.OpenShut
import Derived.Test.YtfppkhbbcnplfaaQuantH
import Derived.Test.YtfppkhbbcnplfaaHold
import Derived.Test.YtfppkhbbcnplfaaPost
namespace Go.Proofs.Ytfppkhbbcnplfaa.quantNear
open Go.ChangeShapes Go.WideShapes Go.ChangeAt Go.RowKit
set_option linter.unusedVariables false

theorem own : ownKnob Try.prog.godebug = none := by kernel_rfl

theorem near_pow {s t : Int} (h0 : 0 ≤ t) (h7 : s ≤ 7) : 10 ^ (s - t).toNat ≤ 10000000 := by
  have : 10 ^ (s - t).toNat ≤ 10 ^ 7 := Nat.pow_le_pow_right (by decide) (by omega)
  exact this
theorem cmpZ_le {a b : Int} (h : a ≤ b) : ¬ 0 < cmpZ a b := by
  rcases cmpZ_cases a b with ⟨_, e⟩ | ⟨_, e⟩ | ⟨_, e⟩ <;> omega
set_option maxRecDepth 100000 in
set_option maxHeartbeats 12800000 in
theorem walk (pn ps pt pm : Int) (_ : (Lit.int .i64 pn).wf = true) (_ : (Lit.int .i64 ps).wf = true) (_ : (Lit.int .i64 pt).wf = true) (_ : (Lit.int .i64 pm).wf = true) (w : World) : Calls Try.prog 4 #[.int .i64 pn, .int .i64 ps, .int .i64 pt, .int .i64 pm] w fun e w' => e = .returned (.bool true) ∧ Below w.heap.size w w' := by
  go_enter Try.func4, Try.ntmps4
  have V := HB.start (Below.refl w.heap.size w)
  go_wp2_with fail
  refine (pick_c _ 8 _ (by omega) (by omega)).mono ?_
  rintro e w' ⟨_, ⟨s, ⟨ls, hs⟩, rfl⟩, rfl, rfl⟩
  go_wp2_with fail
  refine (pick_c _ (s + 1) _ (by omega) (by omega)).mono ?_
  rintro e w' ⟨_, ⟨t, ⟨lt, ht⟩, rfl⟩, rfl, rfl⟩
  go_wp2_with fail
  refine (pick_c _ 5 _ (by omega) (by omega)).mono ?_
  rintro e w' ⟨_, ⟨m, ⟨lm, hm⟩, rfl⟩, rfl, rfl⟩
  go_wp2_with fail
  refine (pick_c _ 200000001 _ (by omega) (by omega)).mono ?_
  rintro e w' ⟨_, ⟨v, ⟨lo, hi⟩, rfl⟩, rfl, rfl⟩
  obtain ⟨x, ex⟩ : ∃ x : Int, v - 100000000 = x := ⟨_, rfl⟩
  have hx : x.natAbs ≤ 100000000 := by omega
  go_wp2_with fail
  refine (refOf_c x s _ (by omega) (by omega) (by omega) (by omega)).mono ?_
  clear lo hi ex
  rintro e w1 ⟨_, ⟨n1, a1, b1, D1, rfl⟩, rfl, hb⟩
  replace V := V.below hb
  clear hb
  replace V := V.push #[.bool n1, .int .u64 a1, .int .u64 b1, .int .i64 s] 25
  have ts : t ≤ s := by omega
  have s9 : s ≤ 9 := by omega
  have t9 : t ≤ 9 := by omega
  have lt0 : 0 ≤ t := lt
  have hm5 : m = 0 ∨ m = 1 ∨ m = 2 ∨ m = 3 ∨ m = 4 := by omega
  obtain ⟨Q, hQ⟩ : ∃ Q : Nat, 10 ^ (s - t).toNat = Q := ⟨_, rfl⟩
  have hQ0 : 0 < Q := by rw [← hQ]; exact pow10N_pos _
  have hQ7 : Q ≤ 10000000 := by rw [← hQ]; exact near_pow lt (by omega)
  obtain ⟨N, hN⟩ : ∃ N : Nat, divN n1 x s 1 0 t m = N := ⟨_, rfl⟩
  have hN2 : roundN n1 x.natAbs Q m = N := by rw [← hN, quantN_down n1 ts, hQ]
  have hNb : N ≤ 100000001 := by rw [← hN2]; have := rd_le n1 x.natAbs Q m; omega
  obtain ⟨y, hy⟩ : ∃ y : Int, zOf n1 N = y := ⟨_, rfl⟩
  have hyN : y.natAbs = N := by rw [← hy]; exact zOf_abs n1 N
  obtain ⟨δ, hδ⟩ : ∃ δ : Int, y * (Q : Int) - x = δ := ⟨_, rfl⟩
  have hF := near_facts D1 Q hQ0 m y δ (by rw [hN2]; exact hy) hδ
  have hYQ : (y * (Q : Int)).natAbs ≤ 1000000010000000 := by
    rw [Int.natAbs_mul, Int.natAbs_natCast, hyN]
    have := Nat.mul_le_mul hNb hQ7
    omega
  have hzy : zAt y t s = y * (Q : Int) := by unfold zAt; rw [hQ]
  have hz1 : zAt 1 t s = (Q : Int) := by unfold zAt; rw [hQ, Int.one_mul]
  have hEb : δ.natAbs < 10000000 := by have := hF.1; omega
  have Hx := Lib.hid (show Sm x by unfold Sm; omega)
  have Hy := Lib.hid (show Sm y by unfold Sm; omega)
  have HYQ := Lib.hid (show Sm (y * (Q : Int)) by unfold Sm; omega)
  have H1 := Lib.hid (show Sm 1 by unfold Sm; decide)
  have Hδ := Lib.hid (show Sm δ by unfold Sm; omega)
  have HE := Lib.hid (show Sm ((δ.natAbs : Nat) : Int) by unfold Sm; omega)
  have H2E := Lib.hid (show Sm (((δ.natAbs : Nat) : Int) + ((δ.natAbs : Nat) : Int)) by unfold Sm; omega)
  have hc1 : cmpZ (zAt ((δ.natAbs : Nat) : Int) s s) (zAt 1 t s) = -1 := by rw [zAt_self, hz1]; exact cmpZ_lt (by have := hF.1; omega)
  obtain ⟨c2, hc2⟩ : ∃ c2, cmpZ (zAt (((δ.natAbs : Nat) : Int) + ((δ.natAbs : Nat) : Int)) s s) (zAt 1 t s) = c2 := ⟨_, rfl⟩
  have hc20 : 3 ≤ m → ¬ 0 < c2 := fun h3 => by
    rw [← hc2, zAt_self, hz1]
    refine cmpZ_le ?_
    have := hF.2.1 h3 (by omega)
    omega
  have hcd : cmpZ (zAt (y * (Q : Int)) s s) (zAt y t s) = 0 := by rw [zAt_self, hzy]; exact cmpZ_self _
  have HN := Lib.hid hN
  have HY := Lib.hid hy
  have HYN := Lib.hid hyN
  have HZY := Lib.hid hzy
  have HQ := Lib.hid hQ
  have HD := Lib.hid hδ
  have HNb := Lib.hid hNb
  have HF := Lib.hid hF
  have HC1 := Lib.hid hc1
  have HC2 := Lib.hid hc2
  have HC20 := Lib.hid hc20
  have HCD := Lib.hid hcd
  clear hN hN2 hy hyN hzy hz1 hQ hδ hNb hF hc1 hc2 hc20 hcd hYQ hEb hQ0 hQ7 hx hs ht lm hm
  rcases hm5 with rfl | rfl | rfl | rfl | rfl
  · as_aux_lemma =>
      have HFm := Lib.hid (HF.out.2.2.1 rfl)
      clear HF HC20
      go_wp2_with fail
      refine (quant_q n1 a1 b1 s x t 0 _ D1 (sm_30 Hx.out) ls s9 lt0 t9 (by decide) N HN.out (by have := HNb.out; omega)).mono ?_
      rintro e w2 ⟨_, ⟨n2, a2, b2, D2, rfl⟩, rfl, hb⟩
      rw [HY.out] at D2
      replace V := V.below hb
      clear hb
      obtain ⟨g1, p10, p11, p12, p13⟩ := HB.dec (t := 25) (g := w1.heap.size) (a := .bool n1) (b := .int .u64 a1) (c := .int .u64 b1) (d := .int .i64 s) V (by simp)
      replace V := V.push #[.bool n2, .int .u64 a2, .int .u64 b2, .int .i64 t] 25
      go_wp2_with fail
      refine (sub_d n2 a2 b2 t y n1 a1 b1 s x s _ D1 D2 Hy.out Hx.out lt0 ls t9 s9 (by omega)).mono ?_
      rintro e w3 ⟨_, ⟨n3, a3, b3, D3, rfl⟩, rfl, hb⟩
      rw [zAt_self, HZY.out, HD.out] at D3
      replace V := V.below hb
      clear hb
      clear g1 p10 p11 p12 p13
      obtain ⟨g1, p10, p11, p12, p13⟩ := HB.dec (t := 25) (g := w1.heap.size) (a := .bool n1) (b := .int .u64 a1) (c := .int .u64 b1) (d := .int .i64 s) V (by simp)
      obtain ⟨g2, p20, p21, p22, p23⟩ := HB.dec (t := 25) (g := w2.heap.size) (a := .bool n2) (b := .int .u64 a2) (c := .int .u64 b2) (d := .int .i64 t) V (by simp)
      have V2 : HB w [(w3.heap.size + 1, 25, #[.bool n3, .int .u64 a3, .int .u64 b3, .int .i64 s]), (w3.heap.size, 25, #[.bool n3, .int .u64 a3, .int .u64 b3, .int .i64 s]), (w2.heap.size, 25, #[.bool n2, .int .u64 a2, .int .u64 b2, .int .i64 t]), (w1.heap.size, 25, #[.bool n1, .int .u64 a1, .int .u64 b1, .int .i64 s])] ((w3.alloc (.cells #[.bool n3, .int .u64 a3, .int .u64 b3, .int .i64 s] 25)).alloc (.cells #[.bool n3, .int .u64 a3, .int .u64 b3, .int .i64 s] 25)) := by
        have h := (V.push #[.bool n3, .int .u64 a3, .int .u64 b3, .int .i64 s] 25).push #[.bool n3, .int .u64 a3, .int .u64 b3, .int .i64 s] 25
        simpa using h
      have HG := Lib.hid V.1.size
      have HNE := Lib.hid (show ∀ b0 ∈ ([(w3.heap.size + 1, 25, #[.bool n3, .int .u64 a3, .int .u64 b3, .int .i64 s]), (w2.heap.size, 25, #[.bool n2, .int .u64 a2, .int .u64 b2, .int .i64 t]), (w1.heap.size, 25, #[.bool n1, .int .u64 a1, .int .u64 b1, .int .i64 s])] : List (Nat × TypeId × Array Value)), b0.1 ≠ w3.heap.size from fun b0 hb => by
        simp at hb
        rcases hb with rfl | rfl | rfl <;> (dsimp only; omega))
      clear V
      have V := V2
      clear V2
      rcases (show δ < 0 ∨ δ = 0 ∨ 0 < δ by omega) with hd | hd | hd
      · as_aux_lemma =>
          have hsg : δ.sign = -1 := Int.sign_eq_neg_one_of_neg hd
          have HS := Lib.hid hsg
          go_wp2_with fail
          refine (sign_v n3 a3 b3 s δ (-1) _ D3 (sm_30 Hδ.out) ls s9 HS.out).mono ?_
          rintro e w4 ⟨_, rfl, rfl, hb⟩
          replace V := V.below hb
          clear hb
          clear g1 p10 p11 p12 p13 g2 p20 p21 p22 p23
          have Hd := Lib.hid hd
          clear hsg hd
          obtain ⟨g1, p10, p11, p12, p13⟩ := HB.dec (t := 25) (g := w1.heap.size) (a := .bool n1) (b := .int .u64 a1) (c := .int .u64 b1) (d := .int .i64 s) V (by simp)
          obtain ⟨g2, p20, p21, p22, p23⟩ := HB.dec (t := 25) (g := w2.heap.size) (a := .bool n2) (b := .int .u64 a2) (c := .int .u64 b2) (d := .int .i64 t) V (by simp)
          obtain ⟨g3, p30, p31, p32, p33⟩ := HB.dec (t := 25) (g := w3.heap.size) (a := .bool n3) (b := .int .u64 a3) (c := .int .u64 b3) (d := .int .i64 s) V (by simp)
          obtain ⟨g4, p40, p41, p42, p43⟩ := HB.dec (t := 25) (g := w3.heap.size + 1) (a := .bool n3) (b := .int .u64 a3) (c := .int .u64 b3) (d := .int .i64 s) V (by simp)
          go_wp2_with fail
          refine (neg_d n3 a3 b3 s δ _ D3 (sm_30 Hδ.out) ls s9).mono ?_
          rintro e w5 ⟨_, ⟨n9, a9, b9, D9, rfl⟩, rfl, hb⟩
          have e9 : ((δ.natAbs : Nat) : Int) = -δ := by have := Hd.out; omega
          have D9e : DecIs n9 a9 b9 ((δ.natAbs : Nat) : Int) := by rw [e9]; exact D9
          clear e9
          replace V := V.below hb
          clear hb D9
          clear g1 p10 p11 p12 p13 g2 p20 p21 p22 p23 g3 p30 p31 p32 p33 g4 p40 p41 p42 p43
          have Bo := HB.blk (g := w3.heap.size) (t := 25) (cs := #[.bool n3, .int .u64 a3, .int .u64 b3, .int .i64 s]) V (by simp)
          have hgo : w.heap.size ≤ w3.heap.size := by exact HG.out
          have V2 := HB.set4 (g := w3.heap.size) (t := 25) (bs := [(w3.heap.size + 1, 25, #[.bool n3, .int .u64 a3, .int .u64 b3, .int .i64 s]), (w2.heap.size, 25, #[.bool n2, .int .u64 a2, .int .u64 b2, .int .i64 t]), (w1.heap.size, 25, #[.bool n1, .int .u64 a1, .int .u64 b1, .int .i64 s])]) (a' := .bool n9) (b' := .int .u64 a9) (c' := .int .u64 b9) (d' := .int .i64 s) (HB.sub V (by simp)) Bo hgo HNE.out
          obtain ⟨g1, p10, p11, p12, p13⟩ := HB.dec (t := 25) (g := w1.heap.size) (a := .bool n1) (b := .int .u64 a1) (c := .int .u64 b1) (d := .int .i64 s) V (by simp)
          obtain ⟨g2, p20, p21, p22, p23⟩ := HB.dec (t := 25) (g := w2.heap.size) (a := .bool n2) (b := .int .u64 a2) (c := .int .u64 b2) (d := .int .i64 t) V (by simp)
          obtain ⟨g3, p30, p31, p32, p33⟩ := HB.dec (t := 25) (g := w3.heap.size) (a := .bool n3) (b := .int .u64 a3) (c := .int .u64 b3) (d := .int .i64 s) V (by simp)
          obtain ⟨g4, p40, p41, p42, p43⟩ := HB.dec (t := 25) (g := w3.heap.size + 1) (a := .bool n3) (b := .int .u64 a3) (c := .int .u64 b3) (d := .int .i64 s) V (by simp)
          have fz0 := Bo.frozen 0
          have fz1 := Bo.frozen 1
          have fz2 := Bo.frozen 2
          have fz3 := Bo.frozen 3
          clear V Bo
          have V := V2
          clear V2
          go_wp2_with fail
          refine (add_d n9 a9 b9 s ((δ.natAbs : Nat) : Int) n9 a9 b9 s ((δ.natAbs : Nat) : Int) s _ D9e D9e HE.out HE.out ls ls s9 s9 (Or.inr ⟨Int.le_refl _, rfl⟩)).mono ?_
          rintro e w6 ⟨_, ⟨n5, a5, b5, D5, rfl⟩, rfl, hb⟩
          rw [zAt_self] at D5
          replace V := V.below hb
          clear hb
          clear g1 p10 p11 p12 p13 g2 p20 p21 p22 p23 g3 p30 p31 p32 p33 g4 p40 p41 p42 p43
          clear fz0 fz1 fz2 fz3
          obtain ⟨g1, p10, p11, p12, p13⟩ := HB.dec (t := 25) (g := w1.heap.size) (a := .bool n1) (b := .int .u64 a1) (c := .int .u64 b1) (d := .int .i64 s) V (by simp)
          obtain ⟨g2, p20, p21, p22, p23⟩ := HB.dec (t := 25) (g := w2.heap.size) (a := .bool n2) (b := .int .u64 a2) (c := .int .u64 b2) (d := .int .i64 t) V (by simp)
          obtain ⟨g4, p40, p41, p42, p43⟩ := HB.dec (t := 25) (g := w3.heap.size + 1) (a := .bool n3) (b := .int .u64 a3) (c := .int .u64 b3) (d := .int .i64 s) V (by simp)
          obtain ⟨g3, p30, p31, p32, p33⟩ := HB.dec (t := 25) (g := w3.heap.size) (a := .bool n9) (b := .int .u64 a9) (c := .int .u64 b9) (d := .int .i64 s) V (by simp)
          replace V := V.push #[.bool n5, .int .u64 a5, .int .u64 b5, .int .i64 s] 25
          go_wp2_with fail
          refine (refOf_c 1 t _ (by decide) (by decide) lt0 t9).mono ?_
          rintro e w7 ⟨_, ⟨n6, a6, b6, D6, rfl⟩, rfl, hb⟩
          replace V := V.below hb
          clear hb
          clear g1 p10 p11 p12 p13 g2 p20 p21 p22 p23 g4 p40 p41 p42 p43 g3 p30 p31 p32 p33
          obtain ⟨g1, p10, p11, p12, p13⟩ := HB.dec (t := 25) (g := w1.heap.size) (a := .bool n1) (b := .int .u64 a1) (c := .int .u64 b1) (d := .int .i64 s) V (by simp)
          obtain ⟨g2, p20, p21, p22, p23⟩ := HB.dec (t := 25) (g := w2.heap.size) (a := .bool n2) (b := .int .u64 a2) (c := .int .u64 b2) (d := .int .i64 t) V (by simp)
          obtain ⟨g4, p40, p41, p42, p43⟩ := HB.dec (t := 25) (g := w3.heap.size + 1) (a := .bool n3) (b := .int .u64 a3) (c := .int .u64 b3) (d := .int .i64 s) V (by simp)
          obtain ⟨g3, p30, p31, p32, p33⟩ := HB.dec (t := 25) (g := w3.heap.size) (a := .bool n9) (b := .int .u64 a9) (c := .int .u64 b9) (d := .int .i64 s) V (by simp)
          obtain ⟨g5, p50, p51, p52, p53⟩ := HB.dec (t := 25) (g := w6.heap.size) (a := .bool n5) (b := .int .u64 a5) (c := .int .u64 b5) (d := .int .i64 s) V (by simp)
          replace V := V.push #[.bool n6, .int .u64 a6, .int .u64 b6, .int .i64 t] 25
          go_wp2_with fail
          refine (qk_c _).mono ?_
          rintro e w8 ⟨_, rfl, rfl, hb⟩
          replace V := V.below hb
          clear hb
          clear g1 p10 p11 p12 p13 g2 p20 p21 p22 p23 g4 p40 p41 p42 p43 g3 p30 p31 p32 p33 g5 p50 p51 p52 p53
          obtain ⟨g1, p10, p11, p12, p13⟩ := HB.dec (t := 25) (g := w1.heap.size) (a := .bool n1) (b := .int .u64 a1) (c := .int .u64 b1) (d := .int .i64 s) V (by simp)
          obtain ⟨g2, p20, p21, p22, p23⟩ := HB.dec (t := 25) (g := w2.heap.size) (a := .bool n2) (b := .int .u64 a2) (c := .int .u64 b2) (d := .int .i64 t) V (by simp)
          obtain ⟨g4, p40, p41, p42, p43⟩ := HB.dec (t := 25) (g := w3.heap.size + 1) (a := .bool n3) (b := .int .u64 a3) (c := .int .u64 b3) (d := .int .i64 s) V (by simp)
          obtain ⟨g3, p30, p31, p32, p33⟩ := HB.dec (t := 25) (g := w3.heap.size) (a := .bool n9) (b := .int .u64 a9) (c := .int .u64 b9) (d := .int .i64 s) V (by simp)
          obtain ⟨g5, p50, p51, p52, p53⟩ := HB.dec (t := 25) (g := w6.heap.size) (a := .bool n5) (b := .int .u64 a5) (c := .int .u64 b5) (d := .int .i64 s) V (by simp)
          obtain ⟨g6, p60, p61, p62, p63⟩ := HB.dec (t := 25) (g := w7.heap.size) (a := .bool n6) (b := .int .u64 a6) (c := .int .u64 b6) (d := .int .i64 t) V (by simp)
          go_wp2_with fail
          refine (cmp_v n9 a9 b9 s ((δ.natAbs : Nat) : Int) n6 a6 b6 t 1 s (-1) _ D9e D6 HE.out H1.out ls lt0 s9 t9 (Or.inr ⟨ts, rfl⟩) HC1.out).mono ?_
          rintro e w9 ⟨_, rfl, rfl, hb⟩
          replace V := V.below hb
          clear hb
          clear g1 p10 p11 p12 p13 g2 p20 p21 p22 p23 g4 p40 p41 p42 p43 g3 p30 p31 p32 p33 g5 p50 p51 p52 p53 g6 p60 p61 p62 p63
          obtain ⟨g1, p10, p11, p12, p13⟩ := HB.dec (t := 25) (g := w1.heap.size) (a := .bool n1) (b := .int .u64 a1) (c := .int .u64 b1) (d := .int .i64 s) V (by simp)
          obtain ⟨g2, p20, p21, p22, p23⟩ := HB.dec (t := 25) (g := w2.heap.size) (a := .bool n2) (b := .int .u64 a2) (c := .int .u64 b2) (d := .int .i64 t) V (by simp)
          obtain ⟨g4, p40, p41, p42, p43⟩ := HB.dec (t := 25) (g := w3.heap.size + 1) (a := .bool n3) (b := .int .u64 a3) (c := .int .u64 b3) (d := .int .i64 s) V (by simp)
          obtain ⟨g3, p30, p31, p32, p33⟩ := HB.dec (t := 25) (g := w3.heap.size) (a := .bool n9) (b := .int .u64 a9) (c := .int .u64 b9) (d := .int .i64 s) V (by simp)
          obtain ⟨g5, p50, p51, p52, p53⟩ := HB.dec (t := 25) (g := w6.heap.size) (a := .bool n5) (b := .int .u64 a5) (c := .int .u64 b5) (d := .int .i64 s) V (by simp)
          obtain ⟨g6, p60, p61, p62, p63⟩ := HB.dec (t := 25) (g := w7.heap.size) (a := .bool n6) (b := .int .u64 a6) (c := .int .u64 b6) (d := .int .i64 t) V (by simp)
          obtain ⟨σ, hσ⟩ : ∃ σ, x.sign = σ := ⟨_, rfl⟩
          have hne : ((-1 : Int) == σ) = false := by
            have h := HFm.out (by have := Hd.out; omega)
            rw [HS.out, hσ] at h
            simpa using h
          have HSx := Lib.hid hσ
          clear hσ
          go_upto_region 16 with fail
          refine wp_region_det (S := fun w' => HB w [(w7.heap.size, 25, #[.bool n6, .int .u64 a6, .int .u64 b6, .int .i64 t]), (w6.heap.size, 25, #[.bool n5, .int .u64 a5, .int .u64 b5, .int .i64 s]), (w3.heap.size, 25, #[.bool n9, .int .u64 a9, .int .u64 b9, .int .i64 s]), (w3.heap.size + 1, 25, #[.bool n3, .int .u64 a3, .int .u64 b3, .int .i64 s]), (w2.heap.size, 25, #[.bool n2, .int .u64 a2, .int .u64 b2, .int .i64 t]), (w1.heap.size, 25, #[.bool n1, .int .u64 a1, .int .u64 b1, .int .i64 s])] w') (by kernel_rfl) (HB.drew V) ?_
          refine det_take (v := ?_) (i := 0) (fuel := 9) (by simp; rfl) (by kernel_rfl) (by kernel_rfl) (by kernel_rfl) (Or.inl ⟨by rfl, fun w' hS => Or.inl ⟨w', ?_, hS⟩⟩) ?_
          rotate_left
          · obtain ⟨-, c0, c1, c2, c3⟩ := HB.dec (t := 25) (g := w3.heap.size + 1) (a := .bool n3) (b := .int .u64 a3) (c := .int .u64 b3) (d := .int .i64 s) hS (by simp)
            go_simp
            all_goals with_reducible rfl
          simp only [Act.put, List.setIfInBounds_toArray, List.set_cons_zero, List.set_cons_succ]
          refine det_take (v := ?_) (i := 1) (fuel := 8) (by simp; rfl) (by kernel_rfl) (by kernel_rfl) (by kernel_rfl) (Or.inl ⟨by rfl, fun w' hS => Or.inr ⟨20, #[.agg #[.bool n3, .int .u64 a3, .int .u64 b3, .int .i64 s]], w', ?_, ?_⟩⟩) ?_
          rotate_left
          · go_simp
            all_goals with_reducible rfl
          · exact (sign_v n3 a3 b3 s δ (-1) _ D3 (sm_30 Hδ.out) ls s9 HS.out).mono fun e w2 ⟨_, hv, he, hb⟩ => ⟨by rw [he, hv], HB.below hS hb⟩
          simp only [Act.put, List.setIfInBounds_toArray, List.set_cons_zero, List.set_cons_succ]
          refine det_take (v := ?_) (i := 2) (fuel := 7) (by simp; rfl) (by kernel_rfl) (by kernel_rfl) (by kernel_rfl) (Or.inl ⟨by rfl, fun w' hS => Or.inl ⟨w', ?_, hS⟩⟩) ?_
          rotate_left
          · go_simp
            all_goals with_reducible rfl
          simp only [Act.put, List.setIfInBounds_toArray, List.set_cons_zero, List.set_cons_succ]
          refine det_take (v := ?_) (i := 3) (fuel := 6) (by simp; rfl) (by kernel_rfl) (by kernel_rfl) (by kernel_rfl) (Or.inl ⟨by rfl, fun w' hS => Or.inl ⟨w', ?_, hS⟩⟩) ?_
          rotate_left
          · go_simp
            all_goals with_reducible rfl
          simp only [Act.put, List.setIfInBounds_toArray, List.set_cons_zero, List.set_cons_succ]
          refine det_take (v := ?_) (i := 4) (fuel := 5) (by simp; rfl) (by kernel_rfl) (by kernel_rfl) (by kernel_rfl) (Or.inl ⟨by rfl, fun w' hS => Or.inl ⟨w', ?_, hS⟩⟩) ?_
          rotate_left
          · obtain ⟨-, c0, c1, c2, c3⟩ := HB.dec (t := 25) (g := w3.heap.size + 1) (a := .bool n3) (b := .int .u64 a3) (c := .int .u64 b3) (d := .int .i64 s) hS (by simp)
            go_simp
            all_goals with_reducible rfl
          simp only [Act.put, List.setIfInBounds_toArray, List.set_cons_zero, List.set_cons_succ]
          refine det_take (v := ?_) (i := 5) (fuel := 4) (by simp; rfl) (by kernel_rfl) (by kernel_rfl) (by kernel_rfl) (Or.inl ⟨by rfl, fun w' hS => Or.inr ⟨20, #[.agg #[.bool n3, .int .u64 a3, .int .u64 b3, .int .i64 s]], w', ?_, ?_⟩⟩) ?_
          rotate_left
          · go_simp
            all_goals with_reducible rfl
          · exact (sign_v n3 a3 b3 s δ (-1) _ D3 (sm_30 Hδ.out) ls s9 HS.out).mono fun e w2 ⟨_, hv, he, hb⟩ => ⟨by rw [he, hv], HB.below hS hb⟩
          simp only [Act.put, List.setIfInBounds_toArray, List.set_cons_zero, List.set_cons_succ]
          refine det_take (v := ?_) (i := 6) (fuel := 3) (by simp; rfl) (by kernel_rfl) (by kernel_rfl) (by kernel_rfl) (Or.inl ⟨by rfl, fun w' hS => Or.inl ⟨w', ?_, hS⟩⟩) ?_
          rotate_left
          · obtain ⟨-, c0, c1, c2, c3⟩ := HB.dec (t := 25) (g := w1.heap.size) (a := .bool n1) (b := .int .u64 a1) (c := .int .u64 b1) (d := .int .i64 s) hS (by simp)
            go_simp
            all_goals with_reducible rfl
          simp only [Act.put, List.setIfInBounds_toArray, List.set_cons_zero, List.set_cons_succ]
          refine det_take (v := ?_) (i := 7) (fuel := 2) (by simp; rfl) (by kernel_rfl) (by kernel_rfl) (by kernel_rfl) (Or.inl ⟨by rfl, fun w' hS => Or.inr ⟨20, #[.agg #[.bool n1, .int .u64 a1, .int .u64 b1, .int .i64 s]], w', ?_, ?_⟩⟩) ?_
          rotate_left
          · go_simp
            all_goals with_reducible rfl
          · exact (sign_v n1 a1 b1 s x σ _ D1 (sm_30 Hx.out) ls s9 HSx.out).mono fun e w2 ⟨_, hv, he, hb⟩ => ⟨by rw [he, hv], HB.below hS hb⟩
          simp only [Act.put, List.setIfInBounds_toArray, List.set_cons_zero, List.set_cons_succ]
          refine det_take (v := ?_) (i := 8) (fuel := 1) (by simp; rfl) (by kernel_rfl) (by kernel_rfl) (by kernel_rfl) (Or.inl ⟨by rfl, fun w' hS => Or.inl ⟨w', ?_, hS⟩⟩) ?_
          rotate_left
          · go_simp
            all_goals with_reducible rfl
          simp only [Act.put, List.setIfInBounds_toArray, List.set_cons_zero, List.set_cons_succ]
          refine det_take (v := ?_) (i := 9) (fuel := 0) (by simp; rfl) (by kernel_rfl) (by kernel_rfl) (by kernel_rfl) (Or.inl ⟨by rfl, fun w' hS => Or.inl ⟨w', ?_, hS⟩⟩) ?_
          rotate_left
          · go_simp
            all_goals with_reducible rfl
          simp only [Act.put, List.setIfInBounds_toArray, List.set_cons_zero, List.set_cons_succ]
          refine det_done (by kernel_rfl) (fun w' hS => ?_) _
          clear g1 p10 p11 p12 p13 g2 p20 p21 p22 p23 g4 p40 p41 p42 p43 g3 p30 p31 p32 p33 g5 p50 p51 p52 p53 g6 p60 p61 p62 p63
          clear V
          have V := hS
          clear hS
          obtain ⟨g1, p10, p11, p12, p13⟩ := HB.dec (t := 25) (g := w1.heap.size) (a := .bool n1) (b := .int .u64 a1) (c := .int .u64 b1) (d := .int .i64 s) V (by simp)
          obtain ⟨g2, p20, p21, p22, p23⟩ := HB.dec (t := 25) (g := w2.heap.size) (a := .bool n2) (b := .int .u64 a2) (c := .int .u64 b2) (d := .int .i64 t) V (by simp)
          obtain ⟨g4, p40, p41, p42, p43⟩ := HB.dec (t := 25) (g := w3.heap.size + 1) (a := .bool n3) (b := .int .u64 a3) (c := .int .u64 b3) (d := .int .i64 s) V (by simp)
          obtain ⟨g3, p30, p31, p32, p33⟩ := HB.dec (t := 25) (g := w3.heap.size) (a := .bool n9) (b := .int .u64 a9) (c := .int .u64 b9) (d := .int .i64 s) V (by simp)
          obtain ⟨g5, p50, p51, p52, p53⟩ := HB.dec (t := 25) (g := w6.heap.size) (a := .bool n5) (b := .int .u64 a5) (c := .int .u64 b5) (d := .int .i64 s) V (by simp)
          obtain ⟨g6, p60, p61, p62, p63⟩ := HB.dec (t := 25) (g := w7.heap.size) (a := .bool n6) (b := .int .u64 a6) (c := .int .u64 b6) (d := .int .i64 t) V (by simp)
          go_wp2_with fail
          refine (quant_v n2 a2 b2 t y t 0 n2 a2 b2 y _ D2 D2 (sm_30 Hy.out) lt0 t9 lt0 t9 (by decide) N (by rw [quantN_up n2 (Int.le_refl t), Int.sub_self]; simpa using HYN.out) (by have := HNb.out; omega) (by rw [← HYN.out]; exact zOf_self D2)).mono ?_
          rintro e wc ⟨_, rfl, rfl, hb⟩
          replace V := V.below hb
          clear hb
          clear g1 p10 p11 p12 p13 g2 p20 p21 p22 p23 g4 p40 p41 p42 p43 g3 p30 p31 p32 p33 g5 p50 p51 p52 p53 g6 p60 p61 p62 p63
          obtain ⟨g1, p10, p11, p12, p13⟩ := HB.dec (t := 25) (g := w1.heap.size) (a := .bool n1) (b := .int .u64 a1) (c := .int .u64 b1) (d := .int .i64 s) V (by simp)
          obtain ⟨g2, p20, p21, p22, p23⟩ := HB.dec (t := 25) (g := w2.heap.size) (a := .bool n2) (b := .int .u64 a2) (c := .int .u64 b2) (d := .int .i64 t) V (by simp)
          obtain ⟨g4, p40, p41, p42, p43⟩ := HB.dec (t := 25) (g := w3.heap.size + 1) (a := .bool n3) (b := .int .u64 a3) (c := .int .u64 b3) (d := .int .i64 s) V (by simp)
          obtain ⟨g3, p30, p31, p32, p33⟩ := HB.dec (t := 25) (g := w3.heap.size) (a := .bool n9) (b := .int .u64 a9) (c := .int .u64 b9) (d := .int .i64 s) V (by simp)
          obtain ⟨g5, p50, p51, p52, p53⟩ := HB.dec (t := 25) (g := w6.heap.size) (a := .bool n5) (b := .int .u64 a5) (c := .int .u64 b5) (d := .int .i64 s) V (by simp)
          obtain ⟨g6, p60, p61, p62, p63⟩ := HB.dec (t := 25) (g := w7.heap.size) (a := .bool n6) (b := .int .u64 a6) (c := .int .u64 b6) (d := .int .i64 t) V (by simp)
          replace V := V.push #[.bool n2, .int .u64 a2, .int .u64 b2, .int .i64 t] 25
          go_wp2_with fail
          refine (quant_q n2 a2 b2 t y s 0 _ D2 (sm_30 Hy.out) lt0 t9 ls s9 (by decide) (y.natAbs * Q) (by rw [quantN_up n2 ts, HQ.out]) (by have h := HYQ.out; unfold Sm at h; rw [Int.natAbs_mul, Int.natAbs_natCast] at h; omega)).mono ?_
          rintro e wd ⟨_, ⟨n8, a8, b8, D8, rfl⟩, rfl, hb⟩
          rw [← zOf_mul, zOf_self D2] at D8
          replace V := V.below hb
          clear hb
          clear g1 p10 p11 p12 p13 g2 p20 p21 p22 p23 g4 p40 p41 p42 p43 g3 p30 p31 p32 p33 g5 p50 p51 p52 p53 g6 p60 p61 p62 p63
          obtain ⟨g1, p10, p11, p12, p13⟩ := HB.dec (t := 25) (g := w1.heap.size) (a := .bool n1) (b := .int .u64 a1) (c := .int .u64 b1) (d := .int .i64 s) V (by simp)
          obtain ⟨g2, p20, p21, p22, p23⟩ := HB.dec (t := 25) (g := w2.heap.size) (a := .bool n2) (b := .int .u64 a2) (c := .int .u64 b2) (d := .int .i64 t) V (by simp)
          obtain ⟨g4, p40, p41, p42, p43⟩ := HB.dec (t := 25) (g := w3.heap.size + 1) (a := .bool n3) (b := .int .u64 a3) (c := .int .u64 b3) (d := .int .i64 s) V (by simp)
          obtain ⟨g3, p30, p31, p32, p33⟩ := HB.dec (t := 25) (g := w3.heap.size) (a := .bool n9) (b := .int .u64 a9) (c := .int .u64 b9) (d := .int .i64 s) V (by simp)
          obtain ⟨g5, p50, p51, p52, p53⟩ := HB.dec (t := 25) (g := w6.heap.size) (a := .bool n5) (b := .int .u64 a5) (c := .int .u64 b5) (d := .int .i64 s) V (by simp)
          obtain ⟨g6, p60, p61, p62, p63⟩ := HB.dec (t := 25) (g := w7.heap.size) (a := .bool n6) (b := .int .u64 a6) (c := .int .u64 b6) (d := .int .i64 t) V (by simp)
          obtain ⟨g7, p70, p71, p72, p73⟩ := HB.dec (t := 25) (g := wc.heap.size) (a := .bool n2) (b := .int .u64 a2) (c := .int .u64 b2) (d := .int .i64 t) V (by simp)
          replace V := V.push #[.bool n8, .int .u64 a8, .int .u64 b8, .int .i64 s] 25
          have q2 := eqW2_yes (a := a2) (b := b2) (c := a2) (d := b2) ⟨rfl, rfl⟩
          go_wp2_with fail
          refine (cmp_v n8 a8 b8 s (y * (Q : Int)) n2 a2 b2 t y s 0 _ D8 D2 HYQ.out Hy.out ls lt0 s9 t9 (Or.inr ⟨ts, rfl⟩) HCD.out).mono ?_
          rintro e we ⟨_, rfl, rfl, hb⟩
          replace V := V.below hb
          clear hb
          clear g1 p10 p11 p12 p13 g2 p20 p21 p22 p23 g4 p40 p41 p42 p43 g3 p30 p31 p32 p33 g5 p50 p51 p52 p53 g6 p60 p61 p62 p63 g7 p70 p71 p72 p73
          have HB1 := Lib.hid V.1
          clear V
          go_wp2
          go_ret
          exact ⟨rfl, HB1.out⟩
      · as_aux_lemma =>
          have hsg : δ.sign = 0 := by rw [hd]; rfl
          have HS := Lib.hid hsg
          go_wp2_with fail
          refine (sign_v n3 a3 b3 s δ (0) _ D3 (sm_30 Hδ.out) ls s9 HS.out).mono ?_
          rintro e w4 ⟨_, rfl, rfl, hb⟩
          replace V := V.below hb
          clear hb
          clear g1 p10 p11 p12 p13 g2 p20 p21 p22 p23
          have Hd := Lib.hid hd
          clear hsg hd
          obtain ⟨g1, p10, p11, p12, p13⟩ := HB.dec (t := 25) (g := w1.heap.size) (a := .bool n1) (b := .int .u64 a1) (c := .int .u64 b1) (d := .int .i64 s) V (by simp)
          obtain ⟨g2, p20, p21, p22, p23⟩ := HB.dec (t := 25) (g := w2.heap.size) (a := .bool n2) (b := .int .u64 a2) (c := .int .u64 b2) (d := .int .i64 t) V (by simp)
          obtain ⟨g3, p30, p31, p32, p33⟩ := HB.dec (t := 25) (g := w3.heap.size) (a := .bool n3) (b := .int .u64 a3) (c := .int .u64 b3) (d := .int .i64 s) V (by simp)
          obtain ⟨g4, p40, p41, p42, p43⟩ := HB.dec (t := 25) (g := w3.heap.size + 1) (a := .bool n3) (b := .int .u64 a3) (c := .int .u64 b3) (d := .int .i64 s) V (by simp)
          have e9 : ((δ.natAbs : Nat) : Int) = δ := by have := Hd.out; omega
          have D3e : DecIs n3 a3 b3 ((δ.natAbs : Nat) : Int) := by rw [e9]; exact D3
          clear e9
          go_wp2_with fail
          refine (add_d n3 a3 b3 s ((δ.natAbs : Nat) : Int) n3 a3 b3 s ((δ.natAbs : Nat) : Int) s _ D3e D3e HE.out HE.out ls ls s9 s9 (Or.inr ⟨Int.le_refl _, rfl⟩)).mono ?_
          rintro e w6 ⟨_, ⟨n5, a5, b5, D5, rfl⟩, rfl, hb⟩
          rw [zAt_self] at D5
          replace V := V.below hb
          clear hb
          clear g1 p10 p11 p12 p13 g2 p20 p21 p22 p23 g3 p30 p31 p32 p33 g4 p40 p41 p42 p43
          obtain ⟨g1, p10, p11, p12, p13⟩ := HB.dec (t := 25) (g := w1.heap.size) (a := .bool n1) (b := .int .u64 a1) (c := .int .u64 b1) (d := .int .i64 s) V (by simp)
          obtain ⟨g2, p20, p21, p22, p23⟩ := HB.dec (t := 25) (g := w2.heap.size) (a := .bool n2) (b := .int .u64 a2) (c := .int .u64 b2) (d := .int .i64 t) V (by simp)
          obtain ⟨g3, p30, p31, p32, p33⟩ := HB.dec (t := 25) (g := w3.heap.size) (a := .bool n3) (b := .int .u64 a3) (c := .int .u64 b3) (d := .int .i64 s) V (by simp)
          obtain ⟨g4, p40, p41, p42, p43⟩ := HB.dec (t := 25) (g := w3.heap.size + 1) (a := .bool n3) (b := .int .u64 a3) (c := .int .u64 b3) (d := .int .i64 s) V (by simp)
          replace V := V.push #[.bool n5, .int .u64 a5, .int .u64 b5, .int .i64 s] 25
          go_wp2_with fail
          refine (refOf_c 1 t _ (by decide) (by decide) lt0 t9).mono ?_
          rintro e w7 ⟨_, ⟨n6, a6, b6, D6, rfl⟩, rfl, hb⟩
          replace V := V.below hb
          clear hb
          clear g1 p10 p11 p12 p13 g2 p20 p21 p22 p23 g3 p30 p31 p32 p33 g4 p40 p41 p42 p43
          obtain ⟨g1, p10, p11, p12, p13⟩ := HB.dec (t := 25) (g := w1.heap.size) (a := .bool n1) (b := .int .u64 a1) (c := .int .u64 b1) (d := .int .i64 s) V (by simp)
          obtain ⟨g2, p20, p21, p22, p23⟩ := HB.dec (t := 25) (g := w2.heap.size) (a := .bool n2) (b := .int .u64 a2) (c := .int .u64 b2) (d := .int .i64 t) V (by simp)
          obtain ⟨g3, p30, p31, p32, p33⟩ := HB.dec (t := 25) (g := w3.heap.size) (a := .bool n3) (b := .int .u64 a3) (c := .int .u64 b3) (d := .int .i64 s) V (by simp)
          obtain ⟨g4, p40, p41, p42, p43⟩ := HB.dec (t := 25) (g := w3.heap.size + 1) (a := .bool n3) (b := .int .u64 a3) (c := .int .u64 b3) (d := .int .i64 s) V (by simp)
          obtain ⟨g5, p50, p51, p52, p53⟩ := HB.dec (t := 25) (g := w6.heap.size) (a := .bool n5) (b := .int .u64 a5) (c := .int .u64 b5) (d := .int .i64 s) V (by simp)
          replace V := V.push #[.bool n6, .int .u64 a6, .int .u64 b6, .int .i64 t] 25
          go_wp2_with fail
          refine (qk_c _).mono ?_
          rintro e w8 ⟨_, rfl, rfl, hb⟩
          replace V := V.below hb
          clear hb
          clear g1 p10 p11 p12 p13 g2 p20 p21 p22 p23 g3 p30 p31 p32 p33 g4 p40 p41 p42 p43 g5 p50 p51 p52 p53
          obtain ⟨g1, p10, p11, p12, p13⟩ := HB.dec (t := 25) (g := w1.heap.size) (a := .bool n1) (b := .int .u64 a1) (c := .int .u64 b1) (d := .int .i64 s) V (by simp)
          obtain ⟨g2, p20, p21, p22, p23⟩ := HB.dec (t := 25) (g := w2.heap.size) (a := .bool n2) (b := .int .u64 a2) (c := .int .u64 b2) (d := .int .i64 t) V (by simp)
          obtain ⟨g3, p30, p31, p32, p33⟩ := HB.dec (t := 25) (g := w3.heap.size) (a := .bool n3) (b := .int .u64 a3) (c := .int .u64 b3) (d := .int .i64 s) V (by simp)
          obtain ⟨g4, p40, p41, p42, p43⟩ := HB.dec (t := 25) (g := w3.heap.size + 1) (a := .bool n3) (b := .int .u64 a3) (c := .int .u64 b3) (d := .int .i64 s) V (by simp)
          obtain ⟨g5, p50, p51, p52, p53⟩ := HB.dec (t := 25) (g := w6.heap.size) (a := .bool n5) (b := .int .u64 a5) (c := .int .u64 b5) (d := .int .i64 s) V (by simp)
          obtain ⟨g6, p60, p61, p62, p63⟩ := HB.dec (t := 25) (g := w7.heap.size) (a := .bool n6) (b := .int .u64 a6) (c := .int .u64 b6) (d := .int .i64 t) V (by simp)
          go_wp2_with fail
          refine (cmp_v n3 a3 b3 s ((δ.natAbs : Nat) : Int) n6 a6 b6 t 1 s (-1) _ D3e D6 HE.out H1.out ls lt0 s9 t9 (Or.inr ⟨ts, rfl⟩) HC1.out).mono ?_
          rintro e w9 ⟨_, rfl, rfl, hb⟩
          replace V := V.below hb
          clear hb
          clear g1 p10 p11 p12 p13 g2 p20 p21 p22 p23 g3 p30 p31 p32 p33 g4 p40 p41 p42 p43 g5 p50 p51 p52 p53 g6 p60 p61 p62 p63
          obtain ⟨g1, p10, p11, p12, p13⟩ := HB.dec (t := 25) (g := w1.heap.size) (a := .bool n1) (b := .int .u64 a1) (c := .int .u64 b1) (d := .int .i64 s) V (by simp)
          obtain ⟨g2, p20, p21, p22, p23⟩ := HB.dec (t := 25) (g := w2.heap.size) (a := .bool n2) (b := .int .u64 a2) (c := .int .u64 b2) (d := .int .i64 t) V (by simp)
          obtain ⟨g3, p30, p31, p32, p33⟩ := HB.dec (t := 25) (g := w3.heap.size) (a := .bool n3) (b := .int .u64 a3) (c := .int .u64 b3) (d := .int .i64 s) V (by simp)
          obtain ⟨g4, p40, p41, p42, p43⟩ := HB.dec (t := 25) (g := w3.heap.size + 1) (a := .bool n3) (b := .int .u64 a3) (c := .int .u64 b3) (d := .int .i64 s) V (by simp)
          obtain ⟨g5, p50, p51, p52, p53⟩ := HB.dec (t := 25) (g := w6.heap.size) (a := .bool n5) (b := .int .u64 a5) (c := .int .u64 b5) (d := .int .i64 s) V (by simp)
          obtain ⟨g6, p60, p61, p62, p63⟩ := HB.dec (t := 25) (g := w7.heap.size) (a := .bool n6) (b := .int .u64 a6) (c := .int .u64 b6) (d := .int .i64 t) V (by simp)
          obtain ⟨σ, hσ⟩ : ∃ σ, x.sign = σ := ⟨_, rfl⟩
          have HSx := Lib.hid hσ
          clear hσ
          go_upto_region 16 with fail
          refine wp_region_det (S := fun w' => HB w [(w7.heap.size, 25, #[.bool n6, .int .u64 a6, .int .u64 b6, .int .i64 t]), (w6.heap.size, 25, #[.bool n5, .int .u64 a5, .int .u64 b5, .int .i64 s]), (w3.heap.size + 1, 25, #[.bool n3, .int .u64 a3, .int .u64 b3, .int .i64 s]), (w3.heap.size, 25, #[.bool n3, .int .u64 a3, .int .u64 b3, .int .i64 s]), (w2.heap.size, 25, #[.bool n2, .int .u64 a2, .int .u64 b2, .int .i64 t]), (w1.heap.size, 25, #[.bool n1, .int .u64 a1, .int .u64 b1, .int .i64 s])] w') (by kernel_rfl) (HB.drew V) ?_
          refine det_take (v := ?_) (i := 0) (fuel := 9) (by simp; rfl) (by kernel_rfl) (by kernel_rfl) (by kernel_rfl) (Or.inl ⟨by rfl, fun w' hS => Or.inl ⟨w', ?_, hS⟩⟩) ?_
          rotate_left
          · obtain ⟨-, c0, c1, c2, c3⟩ := HB.dec (t := 25) (g := w3.heap.size + 1) (a := .bool n3) (b := .int .u64 a3) (c := .int .u64 b3) (d := .int .i64 s) hS (by simp)
            go_simp
            all_goals with_reducible rfl
          simp only [Act.put, List.setIfInBounds_toArray, List.set_cons_zero, List.set_cons_succ]
          refine det_take (v := ?_) (i := 1) (fuel := 8) (by simp; rfl) (by kernel_rfl) (by kernel_rfl) (by kernel_rfl) (Or.inl ⟨by rfl, fun w' hS => Or.inr ⟨20, #[.agg #[.bool n3, .int .u64 a3, .int .u64 b3, .int .i64 s]], w', ?_, ?_⟩⟩) ?_
          rotate_left
          · go_simp
            all_goals with_reducible rfl
          · exact (sign_v n3 a3 b3 s δ (0) _ D3 (sm_30 Hδ.out) ls s9 HS.out).mono fun e w2 ⟨_, hv, he, hb⟩ => ⟨by rw [he, hv], HB.below hS hb⟩
          simp only [Act.put, List.setIfInBounds_toArray, List.set_cons_zero, List.set_cons_succ]
          refine det_take (v := ?_) (i := 2) (fuel := 7) (by simp; rfl) (by kernel_rfl) (by kernel_rfl) (by kernel_rfl) (Or.inl ⟨by rfl, fun w' hS => Or.inl ⟨w', ?_, hS⟩⟩) ?_
          rotate_left
          · go_simp
            all_goals with_reducible rfl
          simp only [Act.put, List.setIfInBounds_toArray, List.set_cons_zero, List.set_cons_succ]
          refine det_take (v := ?_) (i := 3) (fuel := 6) (by simp; rfl) (by kernel_rfl) (by kernel_rfl) (by kernel_rfl) (Or.inl ⟨by rfl, fun w' hS => Or.inl ⟨w', ?_, hS⟩⟩) ?_
          rotate_left
          · go_simp
            all_goals with_reducible rfl
          simp only [Act.put, List.setIfInBounds_toArray, List.set_cons_zero, List.set_cons_succ]
          refine det_take (v := undef) (i := 4) (fuel := 5) (by simp; rfl) (by kernel_rfl) (by kernel_rfl) (by kernel_rfl) (Or.inr ⟨by rfl, rfl⟩) ?_
          simp only [Act.put, List.setIfInBounds_toArray, List.set_cons_zero, List.set_cons_succ]
          refine det_take (v := undef) (i := 5) (fuel := 4) (by simp; rfl) (by kernel_rfl) (by kernel_rfl) (by kernel_rfl) (Or.inr ⟨by rfl, rfl⟩) ?_
          simp only [Act.put, List.setIfInBounds_toArray, List.set_cons_zero, List.set_cons_succ]
          refine det_take (v := undef) (i := 6) (fuel := 3) (by simp; rfl) (by kernel_rfl) (by kernel_rfl) (by kernel_rfl) (Or.inr ⟨by rfl, rfl⟩) ?_
          simp only [Act.put, List.setIfInBounds_toArray, List.set_cons_zero, List.set_cons_succ]
          refine det_take (v := undef) (i := 7) (fuel := 2) (by simp; rfl) (by kernel_rfl) (by kernel_rfl) (by kernel_rfl) (Or.inr ⟨by rfl, rfl⟩) ?_
          simp only [Act.put, List.setIfInBounds_toArray, List.set_cons_zero, List.set_cons_succ]
          refine det_take (v := undef) (i := 8) (fuel := 1) (by simp; rfl) (by kernel_rfl) (by kernel_rfl) (by kernel_rfl) (Or.inr ⟨by rfl, rfl⟩) ?_
          simp only [Act.put, List.setIfInBounds_toArray, List.set_cons_zero, List.set_cons_succ]
          refine det_take (v := ?_) (i := 9) (fuel := 0) (by simp; rfl) (by kernel_rfl) (by kernel_rfl) (by kernel_rfl) (Or.inl ⟨by rfl, fun w' hS => Or.inl ⟨w', ?_, hS⟩⟩) ?_
          rotate_left
          · go_simp
            all_goals with_reducible rfl
          simp only [Act.put, List.setIfInBounds_toArray, List.set_cons_zero, List.set_cons_succ]
          refine det_done (by kernel_rfl) (fun w' hS => ?_) _
          clear g1 p10 p11 p12 p13 g2 p20 p21 p22 p23 g3 p30 p31 p32 p33 g4 p40 p41 p42 p43 g5 p50 p51 p52 p53 g6 p60 p61 p62 p63
          clear V
          have V := hS
          clear hS
          obtain ⟨g1, p10, p11, p12, p13⟩ := HB.dec (t := 25) (g := w1.heap.size) (a := .bool n1) (b := .int .u64 a1) (c := .int .u64 b1) (d := .int .i64 s) V (by simp)
          obtain ⟨g2, p20, p21, p22, p23⟩ := HB.dec (t := 25) (g := w2.heap.size) (a := .bool n2) (b := .int .u64 a2) (c := .int .u64 b2) (d := .int .i64 t) V (by simp)
          obtain ⟨g3, p30, p31, p32, p33⟩ := HB.dec (t := 25) (g := w3.heap.size) (a := .bool n3) (b := .int .u64 a3) (c := .int .u64 b3) (d := .int .i64 s) V (by simp)
          obtain ⟨g4, p40, p41, p42, p43⟩ := HB.dec (t := 25) (g := w3.heap.size + 1) (a := .bool n3) (b := .int .u64 a3) (c := .int .u64 b3) (d := .int .i64 s) V (by simp)
          obtain ⟨g5, p50, p51, p52, p53⟩ := HB.dec (t := 25) (g := w6.heap.size) (a := .bool n5) (b := .int .u64 a5) (c := .int .u64 b5) (d := .int .i64 s) V (by simp)
          obtain ⟨g6, p60, p61, p62, p63⟩ := HB.dec (t := 25) (g := w7.heap.size) (a := .bool n6) (b := .int .u64 a6) (c := .int .u64 b6) (d := .int .i64 t) V (by simp)
          go_wp2_with fail
          refine (quant_v n2 a2 b2 t y t 0 n2 a2 b2 y _ D2 D2 (sm_30 Hy.out) lt0 t9 lt0 t9 (by decide) N (by rw [quantN_up n2 (Int.le_refl t), Int.sub_self]; simpa using HYN.out) (by have := HNb.out; omega) (by rw [← HYN.out]; exact zOf_self D2)).mono ?_
          rintro e wc ⟨_, rfl, rfl, hb⟩
          replace V := V.below hb
          clear hb
          clear g1 p10 p11 p12 p13 g2 p20 p21 p22 p23 g3 p30 p31 p32 p33 g4 p40 p41 p42 p43 g5 p50 p51 p52 p53 g6 p60 p61 p62 p63
          obtain ⟨g1, p10, p11, p12, p13⟩ := HB.dec (t := 25) (g := w1.heap.size) (a := .bool n1) (b := .int .u64 a1) (c := .int .u64 b1) (d := .int .i64 s) V (by simp)
          obtain ⟨g2, p20, p21, p22, p23⟩ := HB.dec (t := 25) (g := w2.heap.size) (a := .bool n2) (b := .int .u64 a2) (c := .int .u64 b2) (d := .int .i64 t) V (by simp)
          obtain ⟨g3, p30, p31, p32, p33⟩ := HB.dec (t := 25) (g := w3.heap.size) (a := .bool n3) (b := .int .u64 a3) (c := .int .u64 b3) (d := .int .i64 s) V (by simp)
          obtain ⟨g4, p40, p41, p42, p43⟩ := HB.dec (t := 25) (g := w3.heap.size + 1) (a := .bool n3) (b := .int .u64 a3) (c := .int .u64 b3) (d := .int .i64 s) V (by simp)
          obtain ⟨g5, p50, p51, p52, p53⟩ := HB.dec (t := 25) (g := w6.heap.size) (a := .bool n5) (b := .int .u64 a5) (c := .int .u64 b5) (d := .int .i64 s) V (by simp)
          obtain ⟨g6, p60, p61, p62, p63⟩ := HB.dec (t := 25) (g := w7.heap.size) (a := .bool n6) (b := .int .u64 a6) (c := .int .u64 b6) (d := .int .i64 t) V (by simp)
          replace V := V.push #[.bool n2, .int .u64 a2, .int .u64 b2, .int .i64 t] 25
          go_wp2_with fail
          refine (quant_q n2 a2 b2 t y s 0 _ D2 (sm_30 Hy.out) lt0 t9 ls s9 (by decide) (y.natAbs * Q) (by rw [quantN_up n2 ts, HQ.out]) (by have h := HYQ.out; unfold Sm at h; rw [Int.natAbs_mul, Int.natAbs_natCast] at h; omega)).mono ?_
          rintro e wd ⟨_, ⟨n8, a8, b8, D8, rfl⟩, rfl, hb⟩
          rw [← zOf_mul, zOf_self D2] at D8
          replace V := V.below hb
          clear hb
          clear g1 p10 p11 p12 p13 g2 p20 p21 p22 p23 g3 p30 p31 p32 p33 g4 p40 p41 p42 p43 g5 p50 p51 p52 p53 g6 p60 p61 p62 p63
          obtain ⟨g1, p10, p11, p12, p13⟩ := HB.dec (t := 25) (g := w1.heap.size) (a := .bool n1) (b := .int .u64 a1) (c := .int .u64 b1) (d := .int .i64 s) V (by simp)
          obtain ⟨g2, p20, p21, p22, p23⟩ := HB.dec (t := 25) (g := w2.heap.size) (a := .bool n2) (b := .int .u64 a2) (c := .int .u64 b2) (d := .int .i64 t) V (by simp)
          obtain ⟨g3, p30, p31, p32, p33⟩ := HB.dec (t := 25) (g := w3.heap.size) (a := .bool n3) (b := .int .u64 a3) (c := .int .u64 b3) (d := .int .i64 s) V (by simp)
          obtain ⟨g4, p40, p41, p42, p43⟩ := HB.dec (t := 25) (g := w3.heap.size + 1) (a := .bool n3) (b := .int .u64 a3) (c := .int .u64 b3) (d := .int .i64 s) V (by simp)
          obtain ⟨g5, p50, p51, p52, p53⟩ := HB.dec (t := 25) (g := w6.heap.size) (a := .bool n5) (b := .int .u64 a5) (c := .int .u64 b5) (d := .int .i64 s) V (by simp)
          obtain ⟨g6, p60, p61, p62, p63⟩ := HB.dec (t := 25) (g := w7.heap.size) (a := .bool n6) (b := .int .u64 a6) (c := .int .u64 b6) (d := .int .i64 t) V (by simp)
          obtain ⟨g7, p70, p71, p72, p73⟩ := HB.dec (t := 25) (g := wc.heap.size) (a := .bool n2) (b := .int .u64 a2) (c := .int .u64 b2) (d := .int .i64 t) V (by simp)
          replace V := V.push #[.bool n8, .int .u64 a8, .int .u64 b8, .int .i64 s] 25
          have q2 := eqW2_yes (a := a2) (b := b2) (c := a2) (d := b2) ⟨rfl, rfl⟩
          go_wp2_with fail
          refine (cmp_v n8 a8 b8 s (y * (Q : Int)) n2 a2 b2 t y s 0 _ D8 D2 HYQ.out Hy.out ls lt0 s9 t9 (Or.inr ⟨ts, rfl⟩) HCD.out).mono ?_
          rintro e we ⟨_, rfl, rfl, hb⟩
          replace V := V.below hb
          clear hb
          clear g1 p10 p11 p12 p13 g2 p20 p21 p22 p23 g3 p30 p31 p32 p33 g4 p40 p41 p42 p43 g5 p50 p51 p52 p53 g6 p60 p61 p62 p63 g7 p70 p71 p72 p73
          have HB1 := Lib.hid V.1
          clear V
          go_wp2
          go_ret
          exact ⟨rfl, HB1.out⟩
      · as_aux_lemma =>
          have hsg : δ.sign = 1 := Int.sign_eq_one_of_pos hd
          have HS := Lib.hid hsg
          go_wp2_with fail
          refine (sign_v n3 a3 b3 s δ (1) _ D3 (sm_30 Hδ.out) ls s9 HS.out).mono ?_
          rintro e w4 ⟨_, rfl, rfl, hb⟩
          replace V := V.below hb
          clear hb
          clear g1 p10 p11 p12 p13 g2 p20 p21 p22 p23
          have Hd := Lib.hid hd
          clear hsg hd
          obtain ⟨g1, p10, p11, p12, p13⟩ := HB.dec (t := 25) (g := w1.heap.size) (a := .bool n1) (b := .int .u64 a1) (c := .int .u64 b1) (d := .int .i64 s) V (by simp)
          obtain ⟨g2, p20, p21, p22, p23⟩ := HB.dec (t := 25) (g := w2.heap.size) (a := .bool n2) (b := .int .u64 a2) (c := .int .u64 b2) (d := .int .i64 t) V (by simp)
          obtain ⟨g3, p30, p31, p32, p33⟩ := HB.dec (t := 25) (g := w3.heap.size) (a := .bool n3) (b := .int .u64 a3) (c := .int .u64 b3) (d := .int .i64 s) V (by simp)
          obtain ⟨g4, p40, p41, p42, p43⟩ := HB.dec (t := 25) (g := w3.heap.size + 1) (a := .bool n3) (b := .int .u64 a3) (c := .int .u64 b3) (d := .int .i64 s) V (by simp)
          have e9 : ((δ.natAbs : Nat) : Int) = δ := by have := Hd.out; omega
          have D3e : DecIs n3 a3 b3 ((δ.natAbs : Nat) : Int) := by rw [e9]; exact D3
          clear e9
          go_wp2_with fail
          refine (add_d n3 a3 b3 s ((δ.natAbs : Nat) : Int) n3 a3 b3 s ((δ.natAbs : Nat) : Int) s _ D3e D3e HE.out HE.out ls ls s9 s9 (Or.inr ⟨Int.le_refl _, rfl⟩)).mono ?_
          rintro e w6 ⟨_, ⟨n5, a5, b5, D5, rfl⟩, rfl, hb⟩
          rw [zAt_self] at D5
          replace V := V.below hb
          clear hb
          clear g1 p10 p11 p12 p13 g2 p20 p21 p22 p23 g3 p30 p31 p32 p33 g4 p40 p41 p42 p43
          obtain ⟨g1, p10, p11, p12, p13⟩ := HB.dec (t := 25) (g := w1.heap.size) (a := .bool n1) (b := .int .u64 a1) (c := .int .u64 b1) (d := .int .i64 s) V (by simp)
          obtain ⟨g2, p20, p21, p22, p23⟩ := HB.dec (t := 25) (g := w2.heap.size) (a := .bool n2) (b := .int .u64 a2) (c := .int .u64 b2) (d := .int .i64 t) V (by simp)
          obtain ⟨g3, p30, p31, p32, p33⟩ := HB.dec (t := 25) (g := w3.heap.size) (a := .bool n3) (b := .int .u64 a3) (c := .int .u64 b3) (d := .int .i64 s) V (by simp)
          obtain ⟨g4, p40, p41, p42, p43⟩ := HB.dec (t := 25) (g := w3.heap.size + 1) (a := .bool n3) (b := .int .u64 a3) (c := .int .u64 b3) (d := .int .i64 s) V (by simp)
          replace V := V.push #[.bool n5, .int .u64 a5, .int .u64 b5, .int .i64 s] 25
          go_wp2_with fail
          refine (refOf_c 1 t _ (by decide) (by decide) lt0 t9).mono ?_
          rintro e w7 ⟨_, ⟨n6, a6, b6, D6, rfl⟩, rfl, hb⟩
          replace V := V.below hb
          clear hb
          clear g1 p10 p11 p12 p13 g2 p20 p21 p22 p23 g3 p30 p31 p32 p33 g4 p40 p41 p42 p43
          obtain ⟨g1, p10, p11, p12, p13⟩ := HB.dec (t := 25) (g := w1.heap.size) (a := .bool n1) (b := .int .u64 a1) (c := .int .u64 b1) (d := .int .i64 s) V (by simp)
          obtain ⟨g2, p20, p21, p22, p23⟩ := HB.dec (t := 25) (g := w2.heap.size) (a := .bool n2) (b := .int .u64 a2) (c := .int .u64 b2) (d := .int .i64 t) V (by simp)
          obtain ⟨g3, p30, p31, p32, p33⟩ := HB.dec (t := 25) (g := w3.heap.size) (a := .bool n3) (b := .int .u64 a3) (c := .int .u64 b3) (d := .int .i64 s) V (by simp)
          obtain ⟨g4, p40, p41, p42, p43⟩ := HB.dec (t := 25) (g := w3.heap.size + 1) (a := .bool n3) (b := .int .u64 a3) (c := .int .u64 b3) (d := .int .i64 s) V (by simp)
          obtain ⟨g5, p50, p51, p52, p53⟩ := HB.dec (t := 25) (g := w6.heap.size) (a := .bool n5) (b := .int .u64 a5) (c := .int .u64 b5) (d := .int .i64 s) V (by simp)
          replace V := V.push #[.bool n6, .int .u64 a6, .int .u64 b6, .int .i64 t] 25
          go_wp2_with fail
          refine (qk_c _).mono ?_
          rintro e w8 ⟨_, rfl, rfl, hb⟩
          replace V := V.below hb
          clear hb
          clear g1 p10 p11 p12 p13 g2 p20 p21 p22 p23 g3 p30 p31 p32 p33 g4 p40 p41 p42 p43 g5 p50 p51 p52 p53
          obtain ⟨g1, p10, p11, p12, p13⟩ := HB.dec (t := 25) (g := w1.heap.size) (a := .bool n1) (b := .int .u64 a1) (c := .int .u64 b1) (d := .int .i64 s) V (by simp)
          obtain ⟨g2, p20, p21, p22, p23⟩ := HB.dec (t := 25) (g := w2.heap.size) (a := .bool n2) (b := .int .u64 a2) (c := .int .u64 b2) (d := .int .i64 t) V (by simp)
          obtain ⟨g3, p30, p31, p32, p33⟩ := HB.dec (t := 25) (g := w3.heap.size) (a := .bool n3) (b := .int .u64 a3) (c := .int .u64 b3) (d := .int .i64 s) V (by simp)
          obtain ⟨g4, p40, p41, p42, p43⟩ := HB.dec (t := 25) (g := w3.heap.size + 1) (a := .bool n3) (b := .int .u64 a3) (c := .int .u64 b3) (d := .int .i64 s) V (by simp)
          obtain ⟨g5, p50, p51, p52, p53⟩ := HB.dec (t := 25) (g := w6.heap.size) (a := .bool n5) (b := .int .u64 a5) (c := .int .u64 b5) (d := .int .i64 s) V (by simp)
          obtain ⟨g6, p60, p61, p62, p63⟩ := HB.dec (t := 25) (g := w7.heap.size) (a := .bool n6) (b := .int .u64 a6) (c := .int .u64 b6) (d := .int .i64 t) V (by simp)
          go_wp2_with fail
          refine (cmp_v n3 a3 b3 s ((δ.natAbs : Nat) : Int) n6 a6 b6 t 1 s (-1) _ D3e D6 HE.out H1.out ls lt0 s9 t9 (Or.inr ⟨ts, rfl⟩) HC1.out).mono ?_
          rintro e w9 ⟨_, rfl, rfl, hb⟩
          replace V := V.below hb
          clear hb
          clear g1 p10 p11 p12 p13 g2 p20 p21 p22 p23 g3 p30 p31 p32 p33 g4 p40 p41 p42 p43 g5 p50 p51 p52 p53 g6 p60 p61 p62 p63
          obtain ⟨g1, p10, p11, p12, p13⟩ := HB.dec (t := 25) (g := w1.heap.size) (a := .bool n1) (b := .int .u64 a1) (c := .int .u64 b1) (d := .int .i64 s) V (by simp)
          obtain ⟨g2, p20, p21, p22, p23⟩ := HB.dec (t := 25) (g := w2.heap.size) (a := .bool n2) (b := .int .u64 a2) (c := .int .u64 b2) (d := .int .i64 t) V (by simp)
          obtain ⟨g3, p30, p31, p32, p33⟩ := HB.dec (t := 25) (g := w3.heap.size) (a := .bool n3) (b := .int .u64 a3) (c := .int .u64 b3) (d := .int .i64 s) V (by simp)
          obtain ⟨g4, p40, p41, p42, p43⟩ := HB.dec (t := 25) (g := w3.heap.size + 1) (a := .bool n3) (b := .int .u64 a3) (c := .int .u64 b3) (d := .int .i64 s) V (by simp)
          obtain ⟨g5, p50, p51, p52, p53⟩ := HB.dec (t := 25) (g := w6.heap.size) (a := .bool n5) (b := .int .u64 a5) (c := .int .u64 b5) (d := .int .i64 s) V (by simp)
          obtain ⟨g6, p60, p61, p62, p63⟩ := HB.dec (t := 25) (g := w7.heap.size) (a := .bool n6) (b := .int .u64 a6) (c := .int .u64 b6) (d := .int .i64 t) V (by simp)
          obtain ⟨σ, hσ⟩ : ∃ σ, x.sign = σ := ⟨_, rfl⟩
          have hne : ((1 : Int) == σ) = false := by
            have h := HFm.out (by have := Hd.out; omega)
            rw [HS.out, hσ] at h
            simpa using h
          have HSx := Lib.hid hσ
          clear hσ
          go_upto_region 16 with fail
          refine wp_region_det (S := fun w' => HB w [(w7.heap.size, 25, #[.bool n6, .int .u64 a6, .int .u64 b6, .int .i64 t]), (w6.heap.size, 25, #[.bool n5, .int .u64 a5, .int .u64 b5, .int .i64 s]), (w3.heap.size + 1, 25, #[.bool n3, .int .u64 a3, .int .u64 b3, .int .i64 s]), (w3.heap.size, 25, #[.bool n3, .int .u64 a3, .int .u64 b3, .int .i64 s]), (w2.heap.size, 25, #[.bool n2, .int .u64 a2, .int .u64 b2, .int .i64 t]), (w1.heap.size, 25, #[.bool n1, .int .u64 a1, .int .u64 b1, .int .i64 s])] w') (by kernel_rfl) (HB.drew V) ?_
          refine det_take (v := ?_) (i := 0) (fuel := 9) (by simp; rfl) (by kernel_rfl) (by kernel_rfl) (by kernel_rfl) (Or.inl ⟨by rfl, fun w' hS => Or.inl ⟨w', ?_, hS⟩⟩) ?_
          rotate_left
          · obtain ⟨-, c0, c1, c2, c3⟩ := HB.dec (t := 25) (g := w3.heap.size + 1) (a := .bool n3) (b := .int .u64 a3) (c := .int .u64 b3) (d := .int .i64 s) hS (by simp)
            go_simp
            all_goals with_reducible rfl
          simp only [Act.put, List.setIfInBounds_toArray, List.set_cons_zero, List.set_cons_succ]
          refine det_take (v := ?_) (i := 1) (fuel := 8) (by simp; rfl) (by kernel_rfl) (by kernel_rfl) (by kernel_rfl) (Or.inl ⟨by rfl, fun w' hS => Or.inr ⟨20, #[.agg #[.bool n3, .int .u64 a3, .int .u64 b3, .int .i64 s]], w', ?_, ?_⟩⟩) ?_
          rotate_left
          · go_simp
            all_goals with_reducible rfl
          · exact (sign_v n3 a3 b3 s δ (1) _ D3 (sm_30 Hδ.out) ls s9 HS.out).mono fun e w2 ⟨_, hv, he, hb⟩ => ⟨by rw [he, hv], HB.below hS hb⟩
          simp only [Act.put, List.setIfInBounds_toArray, List.set_cons_zero, List.set_cons_succ]
          refine det_take (v := ?_) (i := 2) (fuel := 7) (by simp; rfl) (by kernel_rfl) (by kernel_rfl) (by kernel_rfl) (Or.inl ⟨by rfl, fun w' hS => Or.inl ⟨w', ?_, hS⟩⟩) ?_
          rotate_left
          · go_simp
            all_goals with_reducible rfl
          simp only [Act.put, List.setIfInBounds_toArray, List.set_cons_zero, List.set_cons_succ]
          refine det_take (v := ?_) (i := 3) (fuel := 6) (by simp; rfl) (by kernel_rfl) (by kernel_rfl) (by kernel_rfl) (Or.inl ⟨by rfl, fun w' hS => Or.inl ⟨w', ?_, hS⟩⟩) ?_
          rotate_left
          · go_simp
            all_goals with_reducible rfl
          simp only [Act.put, List.setIfInBounds_toArray, List.set_cons_zero, List.set_cons_succ]
          refine det_take (v := ?_) (i := 4) (fuel := 5) (by simp; rfl) (by kernel_rfl) (by kernel_rfl) (by kernel_rfl) (Or.inl ⟨by rfl, fun w' hS => Or.inl ⟨w', ?_, hS⟩⟩) ?_
          rotate_left
          · obtain ⟨-, c0, c1, c2, c3⟩ := HB.dec (t := 25) (g := w3.heap.size + 1) (a := .bool n3) (b := .int .u64 a3) (c := .int .u64 b3) (d := .int .i64 s) hS (by simp)
            go_simp
            all_goals with_reducible rfl
          simp only [Act.put, List.setIfInBounds_toArray, List.set_cons_zero, List.set_cons_succ]
          refine det_take (v := ?_) (i := 5) (fuel := 4) (by simp; rfl) (by kernel_rfl) (by kernel_rfl) (by kernel_rfl) (Or.inl ⟨by rfl, fun w' hS => Or.inr ⟨20, #[.agg #[.bool n3, .int .u64 a3, .int .u64 b3, .int .i64 s]], w', ?_, ?_⟩⟩) ?_
          rotate_left
          · go_simp
            all_goals with_reducible rfl
          · exact (sign_v n3 a3 b3 s δ (1) _ D3 (sm_30 Hδ.out) ls s9 HS.out).mono fun e w2 ⟨_, hv, he, hb⟩ => ⟨by rw [he, hv], HB.below hS hb⟩
          simp only [Act.put, List.setIfInBounds_toArray, List.set_cons_zero, List.set_cons_succ]
          refine det_take (v := ?_) (i := 6) (fuel := 3) (by simp; rfl) (by kernel_rfl) (by kernel_rfl) (by kernel_rfl) (Or.inl ⟨by rfl, fun w' hS => Or.inl ⟨w', ?_, hS⟩⟩) ?_
          rotate_left
          · obtain ⟨-, c0, c1, c2, c3⟩ := HB.dec (t := 25) (g := w1.heap.size) (a := .bool n1) (b := .int .u64 a1) (c := .int .u64 b1) (d := .int .i64 s) hS (by simp)
            go_simp
            all_goals with_reducible rfl
          simp only [Act.put, List.setIfInBounds_toArray, List.set_cons_zero, List.set_cons_succ]
          refine det_take (v := ?_) (i := 7) (fuel := 2) (by simp; rfl) (by kernel_rfl) (by kernel_rfl) (by kernel_rfl) (Or.inl ⟨by rfl, fun w' hS => Or.inr ⟨20, #[.agg #[.bool n1, .int .u64 a1, .int .u64 b1, .int .i64 s]], w', ?_, ?_⟩⟩) ?_
          rotate_left
          · go_simp
            all_goals with_reducible rfl
          · exact (sign_v n1 a1 b1 s x σ _ D1 (sm_30 Hx.out) ls s9 HSx.out).mono fun e w2 ⟨_, hv, he, hb⟩ => ⟨by rw [he, hv], HB.below hS hb⟩
          simp only [Act.put, List.setIfInBounds_toArray, List.set_cons_zero, List.set_cons_succ]
          refine det_take (v := ?_) (i := 8) (fuel := 1) (by simp; rfl) (by kernel_rfl) (by kernel_rfl) (by kernel_rfl) (Or.inl ⟨by rfl, fun w' hS => Or.inl ⟨w', ?_, hS⟩⟩) ?_
          rotate_left
          · go_simp
            all_goals with_reducible rfl
          simp only [Act.put, List.setIfInBounds_toArray, List.set_cons_zero, List.set_cons_succ]
          refine det_take (v := ?_) (i := 9) (fuel := 0) (by simp; rfl) (by kernel_rfl) (by kernel_rfl) (by kernel_rfl) (Or.inl ⟨by rfl, fun w' hS => Or.inl ⟨w', ?_, hS⟩⟩) ?_
          rotate_left
          · go_simp
            all_goals with_reducible rfl
          simp only [Act.put, List.setIfInBounds_toArray, List.set_cons_zero, List.set_cons_succ]
          refine det_done (by kernel_rfl) (fun w' hS => ?_) _
          clear g1 p10 p11 p12 p13 g2 p20 p21 p22 p23 g3 p30 p31 p32 p33 g4 p40 p41 p42 p43 g5 p50 p51 p52 p53 g6 p60 p61 p62 p63
          clear V
          have V := hS
          clear hS
          obtain ⟨g1, p10, p11, p12, p13⟩ := HB.dec (t := 25) (g := w1.heap.size) (a := .bool n1) (b := .int .u64 a1) (c := .int .u64 b1) (d := .int .i64 s) V (by simp)
          obtain ⟨g2, p20, p21, p22, p23⟩ := HB.dec (t := 25) (g := w2.heap.size) (a := .bool n2) (b := .int .u64 a2) (c := .int .u64 b2) (d := .int .i64 t) V (by simp)
          obtain ⟨g3, p30, p31, p32, p33⟩ := HB.dec (t := 25) (g := w3.heap.size) (a := .bool n3) (b := .int .u64 a3) (c := .int .u64 b3) (d := .int .i64 s) V (by simp)
          obtain ⟨g4, p40, p41, p42, p43⟩ := HB.dec (t := 25) (g := w3.heap.size + 1) (a := .bool n3) (b := .int .u64 a3) (c := .int .u64 b3) (d := .int .i64 s) V (by simp)
          obtain ⟨g5, p50, p51, p52, p53⟩ := HB.dec (t := 25) (g := w6.heap.size) (a := .bool n5) (b := .int .u64 a5) (c := .int .u64 b5) (d := .int .i64 s) V (by simp)
          obtain ⟨g6, p60, p61, p62, p63⟩ := HB.dec (t := 25) (g := w7.heap.size) (a := .bool n6) (b := .int .u64 a6) (c := .int .u64 b6) (d := .int .i64 t) V (by simp)
          go_wp2_with fail
          refine (quant_v n2 a2 b2 t y t 0 n2 a2 b2 y _ D2 D2 (sm_30 Hy.out) lt0 t9 lt0 t9 (by decide) N (by rw [quantN_up n2 (Int.le_refl t), Int.sub_self]; simpa using HYN.out) (by have := HNb.out; omega) (by rw [← HYN.out]; exact zOf_self D2)).mono ?_
          rintro e wc ⟨_, rfl, rfl, hb⟩
          replace V := V.below hb
          clear hb
          clear g1 p10 p11 p12 p13 g2 p20 p21 p22 p23 g3 p30 p31 p32 p33 g4 p40 p41 p42 p43 g5 p50 p51 p52 p53 g6 p60 p61 p62 p63
          obtain ⟨g1, p10, p11, p12, p13⟩ := HB.dec (t := 25) (g := w1.heap.size) (a := .bool n1) (b := .int .u64 a1) (c := .int .u64 b1) (d := .int .i64 s) V (by simp)
          obtain ⟨g2, p20, p21, p22, p23⟩ := HB.dec (t := 25) (g := w2.heap.size) (a := .bool n2) (b := .int .u64 a2) (c := .int .u64 b2) (d := .int .i64 t) V (by simp)
          obtain ⟨g3, p30, p31, p32, p33⟩ := HB.dec (t := 25) (g := w3.heap.size) (a := .bool n3) (b := .int .u64 a3) (c := .int .u64 b3) (d := .int .i64 s) V (by simp)
          obtain ⟨g4, p40, p41, p42, p43⟩ := HB.dec (t := 25) (g := w3.heap.size + 1) (a := .bool n3) (b := .int .u64 a3) (c := .int .u64 b3) (d := .int .i64 s) V (by simp)
          obtain ⟨g5, p50, p51, p52, p53⟩ := HB.dec (t := 25) (g := w6.heap.size) (a := .bool n5) (b := .int .u64 a5) (c := .int .u64 b5) (d := .int .i64 s) V (by simp)
          obtain ⟨g6, p60, p61, p62, p63⟩ := HB.dec (t := 25) (g := w7.heap.size) (a := .bool n6) (b := .int .u64 a6) (c := .int .u64 b6) (d := .int .i64 t) V (by simp)
          replace V := V.push #[.bool n2, .int .u64 a2, .int .u64 b2, .int .i64 t] 25
          go_wp2_with fail
          refine (quant_q n2 a2 b2 t y s 0 _ D2 (sm_30 Hy.out) lt0 t9 ls s9 (by decide) (y.natAbs * Q) (by rw [quantN_up n2 ts, HQ.out]) (by have h := HYQ.out; unfold Sm at h; rw [Int.natAbs_mul, Int.natAbs_natCast] at h; omega)).mono ?_
          rintro e wd ⟨_, ⟨n8, a8, b8, D8, rfl⟩, rfl, hb⟩
          rw [← zOf_mul, zOf_self D2] at D8
          replace V := V.below hb
          clear hb
          clear g1 p10 p11 p12 p13 g2 p20 p21 p22 p23 g3 p30 p31 p32 p33 g4 p40 p41 p42 p43 g5 p50 p51 p52 p53 g6 p60 p61 p62 p63
          obtain ⟨g1, p10, p11, p12, p13⟩ := HB.dec (t := 25) (g := w1.heap.size) (a := .bool n1) (b := .int .u64 a1) (c := .int .u64 b1) (d := .int .i64 s) V (by simp)
          obtain ⟨g2, p20, p21, p22, p23⟩ := HB.dec (t := 25) (g := w2.heap.size) (a := .bool n2) (b := .int .u64 a2) (c := .int .u64 b2) (d := .int .i64 t) V (by simp)
          obtain ⟨g3, p30, p31, p32, p33⟩ := HB.dec (t := 25) (g := w3.heap.size) (a := .bool n3) (b := .int .u64 a3) (c := .int .u64 b3) (d := .int .i64 s) V (by simp)
          obtain ⟨g4, p40, p41, p42, p43⟩ := HB.dec (t := 25) (g := w3.heap.size + 1) (a := .bool n3) (b := .int .u64 a3) (c := .int .u64 b3) (d := .int .i64 s) V (by simp)
          obtain ⟨g5, p50, p51, p52, p53⟩ := HB.dec (t := 25) (g := w6.heap.size) (a := .bool n5) (b := .int .u64 a5) (c := .int .u64 b5) (d := .int .i64 s) V (by simp)
          obtain ⟨g6, p60, p61, p62, p63⟩ := HB.dec (t := 25) (g := w7.heap.size) (a := .bool n6) (b := .int .u64 a6) (c := .int .u64 b6) (d := .int .i64 t) V (by simp)
          obtain ⟨g7, p70, p71, p72, p73⟩ := HB.dec (t := 25) (g := wc.heap.size) (a := .bool n2) (b := .int .u64 a2) (c := .int .u64 b2) (d := .int .i64 t) V (by simp)
          replace V := V.push #[.bool n8, .int .u64 a8, .int .u64 b8, .int .i64 s] 25
          have q2 := eqW2_yes (a := a2) (b := b2) (c := a2) (d := b2) ⟨rfl, rfl⟩
          go_wp2_with fail
          refine (cmp_v n8 a8 b8 s (y * (Q : Int)) n2 a2 b2 t y s 0 _ D8 D2 HYQ.out Hy.out ls lt0 s9 t9 (Or.inr ⟨ts, rfl⟩) HCD.out).mono ?_
          rintro e we ⟨_, rfl, rfl, hb⟩
          replace V := V.below hb
          clear hb
          clear g1 p10 p11 p12 p13 g2 p20 p21 p22 p23 g3 p30 p31 p32 p33 g4 p40 p41 p42 p43 g5 p50 p51 p52 p53 g6 p60 p61 p62 p63 g7 p70 p71 p72 p73
          have HB1 := Lib.hid V.1
          clear V
          go_wp2
          go_ret
          exact ⟨rfl, HB1.out⟩
  · as_aux_lemma =>
      have HFm := Lib.hid (HF.out.2.2.2.1 rfl)
      clear HF HC20
      go_wp2_with fail
      refine (quant_q n1 a1 b1 s x t 1 _ D1 (sm_30 Hx.out) ls s9 lt0 t9 (by decide) N HN.out (by have := HNb.out; omega)).mono ?_
      rintro e w2 ⟨_, ⟨n2, a2, b2, D2, rfl⟩, rfl, hb⟩
      rw [HY.out] at D2
      replace V := V.below hb
      clear hb
      obtain ⟨g1, p10, p11, p12, p13⟩ := HB.dec (t := 25) (g := w1.heap.size) (a := .bool n1) (b := .int .u64 a1) (c := .int .u64 b1) (d := .int .i64 s) V (by simp)
      replace V := V.push #[.bool n2, .int .u64 a2, .int .u64 b2, .int .i64 t] 25
      go_wp2_with fail
      refine (sub_d n2 a2 b2 t y n1 a1 b1 s x s _ D1 D2 Hy.out Hx.out lt0 ls t9 s9 (by omega)).mono ?_
      rintro e w3 ⟨_, ⟨n3, a3, b3, D3, rfl⟩, rfl, hb⟩
      rw [zAt_self, HZY.out, HD.out] at D3
      replace V := V.below hb
      clear hb
      clear g1 p10 p11 p12 p13
      obtain ⟨g1, p10, p11, p12, p13⟩ := HB.dec (t := 25) (g := w1.heap.size) (a := .bool n1) (b := .int .u64 a1) (c := .int .u64 b1) (d := .int .i64 s) V (by simp)
      obtain ⟨g2, p20, p21, p22, p23⟩ := HB.dec (t := 25) (g := w2.heap.size) (a := .bool n2) (b := .int .u64 a2) (c := .int .u64 b2) (d := .int .i64 t) V (by simp)
      have V2 : HB w [(w3.heap.size + 1, 25, #[.bool n3, .int .u64 a3, .int .u64 b3, .int .i64 s]), (w3.heap.size, 25, #[.bool n3, .int .u64 a3, .int .u64 b3, .int .i64 s]), (w2.heap.size, 25, #[.bool n2, .int .u64 a2, .int .u64 b2, .int .i64 t]), (w1.heap.size, 25, #[.bool n1, .int .u64 a1, .int .u64 b1, .int .i64 s])] ((w3.alloc (.cells #[.bool n3, .int .u64 a3, .int .u64 b3, .int .i64 s] 25)).alloc (.cells #[.bool n3, .int .u64 a3, .int .u64 b3, .int .i64 s] 25)) := by
        have h := (V.push #[.bool n3, .int .u64 a3, .int .u64 b3, .int .i64 s] 25).push #[.bool n3, .int .u64 a3, .int .u64 b3, .int .i64 s] 25
        simpa using h
      have HG := Lib.hid V.1.size
      have HNE := Lib.hid (show ∀ b0 ∈ ([(w3.heap.size + 1, 25, #[.bool n3, .int .u64 a3, .int .u64 b3, .int .i64 s]), (w2.heap.size, 25, #[.bool n2, .int .u64 a2, .int .u64 b2, .int .i64 t]), (w1.heap.size, 25, #[.bool n1, .int .u64 a1, .int .u64 b1, .int .i64 s])] : List (Nat × TypeId × Array Value)), b0.1 ≠ w3.heap.size from fun b0 hb => by
        simp at hb
        rcases hb with rfl | rfl | rfl <;> (dsimp only; omega))
      clear V
      have V := V2
      clear V2
      rcases (show δ < 0 ∨ δ = 0 ∨ 0 < δ by omega) with hd | hd | hd
      · as_aux_lemma =>
          have hsg : δ.sign = -1 := Int.sign_eq_neg_one_of_neg hd
          have HS := Lib.hid hsg
          go_wp2_with fail
          refine (sign_v n3 a3 b3 s δ (-1) _ D3 (sm_30 Hδ.out) ls s9 HS.out).mono ?_
          rintro e w4 ⟨_, rfl, rfl, hb⟩
          replace V := V.below hb
          clear hb
          clear g1 p10 p11 p12 p13 g2 p20 p21 p22 p23
          have Hd := Lib.hid hd
          clear hsg hd
          obtain ⟨g1, p10, p11, p12, p13⟩ := HB.dec (t := 25) (g := w1.heap.size) (a := .bool n1) (b := .int .u64 a1) (c := .int .u64 b1) (d := .int .i64 s) V (by simp)
          obtain ⟨g2, p20, p21, p22, p23⟩ := HB.dec (t := 25) (g := w2.heap.size) (a := .bool n2) (b := .int .u64 a2) (c := .int .u64 b2) (d := .int .i64 t) V (by simp)
          obtain ⟨g3, p30, p31, p32, p33⟩ := HB.dec (t := 25) (g := w3.heap.size) (a := .bool n3) (b := .int .u64 a3) (c := .int .u64 b3) (d := .int .i64 s) V (by simp)
          obtain ⟨g4, p40, p41, p42, p43⟩ := HB.dec (t := 25) (g := w3.heap.size + 1) (a := .bool n3) (b := .int .u64 a3) (c := .int .u64 b3) (d := .int .i64 s) V (by simp)
          go_wp2_with fail
          refine (neg_d n3 a3 b3 s δ _ D3 (sm_30 Hδ.out) ls s9).mono ?_
          rintro e w5 ⟨_, ⟨n9, a9, b9, D9, rfl⟩, rfl, hb⟩
          have e9 : ((δ.natAbs : Nat) : Int) = -δ := by have := Hd.out; omega
          have D9e : DecIs n9 a9 b9 ((δ.natAbs : Nat) : Int) := by rw [e9]; exact D9
          clear e9
          replace V := V.below hb
          clear hb D9
          clear g1 p10 p11 p12 p13 g2 p20 p21 p22 p23 g3 p30 p31 p32 p33 g4 p40 p41 p42 p43
          have Bo := HB.blk (g := w3.heap.size) (t := 25) (cs := #[.bool n3, .int .u64 a3, .int .u64 b3, .int .i64 s]) V (by simp)
          have hgo : w.heap.size ≤ w3.heap.size := by exact HG.out
          have V2 := HB.set4 (g := w3.heap.size) (t := 25) (bs := [(w3.heap.size + 1, 25, #[.bool n3, .int .u64 a3, .int .u64 b3, .int .i64 s]), (w2.heap.size, 25, #[.bool n2, .int .u64 a2, .int .u64 b2, .int .i64 t]), (w1.heap.size, 25, #[.bool n1, .int .u64 a1, .int .u64 b1, .int .i64 s])]) (a' := .bool n9) (b' := .int .u64 a9) (c' := .int .u64 b9) (d' := .int .i64 s) (HB.sub V (by simp)) Bo hgo HNE.out
          obtain ⟨g1, p10, p11, p12, p13⟩ := HB.dec (t := 25) (g := w1.heap.size) (a := .bool n1) (b := .int .u64 a1) (c := .int .u64 b1) (d := .int .i64 s) V (by simp)
          obtain ⟨g2, p20, p21, p22, p23⟩ := HB.dec (t := 25) (g := w2.heap.size) (a := .bool n2) (b := .int .u64 a2) (c := .int .u64 b2) (d := .int .i64 t) V (by simp)
          obtain ⟨g3, p30, p31, p32, p33⟩ := HB.dec (t := 25) (g := w3.heap.size) (a := .bool n3) (b := .int .u64 a3) (c := .int .u64 b3) (d := .int .i64 s) V (by simp)
          obtain ⟨g4, p40, p41, p42, p43⟩ := HB.dec (t := 25) (g := w3.heap.size + 1) (a := .bool n3) (b := .int .u64 a3) (c := .int .u64 b3) (d := .int .i64 s) V (by simp)
          have fz0 := Bo.frozen 0
          have fz1 := Bo.frozen 1
          have fz2 := Bo.frozen 2
          have fz3 := Bo.frozen 3
          clear V Bo
          have V := V2
          clear V2
          go_wp2_with fail
          refine (add_d n9 a9 b9 s ((δ.natAbs : Nat) : Int) n9 a9 b9 s ((δ.natAbs : Nat) : Int) s _ D9e D9e HE.out HE.out ls ls s9 s9 (Or.inr ⟨Int.le_refl _, rfl⟩)).mono ?_
          rintro e w6 ⟨_, ⟨n5, a5, b5, D5, rfl⟩, rfl, hb⟩
          rw [zAt_self] at D5
          replace V := V.below hb
          clear hb
          clear g1 p10 p11 p12 p13 g2 p20 p21 p22 p23 g3 p30 p31 p32 p33 g4 p40 p41 p42 p43
          clear fz0 fz1 fz2 fz3
          obtain ⟨g1, p10, p11, p12, p13⟩ := HB.dec (t := 25) (g := w1.heap.size) (a := .bool n1) (b := .int .u64 a1) (c := .int .u64 b1) (d := .int .i64 s) V (by simp)
          obtain ⟨g2, p20, p21, p22, p23⟩ := HB.dec (t := 25) (g := w2.heap.size) (a := .bool n2) (b := .int .u64 a2) (c := .int .u64 b2) (d := .int .i64 t) V (by simp)
          obtain ⟨g4, p40, p41, p42, p43⟩ := HB.dec (t := 25) (g := w3.heap.size + 1) (a := .bool n3) (b := .int .u64 a3) (c := .int .u64 b3) (d := .int .i64 s) V (by simp)
          obtain ⟨g3, p30, p31, p32, p33⟩ := HB.dec (t := 25) (g := w3.heap.size) (a := .bool n9) (b := .int .u64 a9) (c := .int .u64 b9) (d := .int .i64 s) V (by simp)
          replace V := V.push #[.bool n5, .int .u64 a5, .int .u64 b5, .int .i64 s] 25
          go_wp2_with fail
          refine (refOf_c 1 t _ (by decide) (by decide) lt0 t9).mono ?_
          rintro e w7 ⟨_, ⟨n6, a6, b6, D6, rfl⟩, rfl, hb⟩
          replace V := V.below hb
          clear hb
          clear g1 p10 p11 p12 p13 g2 p20 p21 p22 p23 g4 p40 p41 p42 p43 g3 p30 p31 p32 p33
          obtain ⟨g1, p10, p11, p12, p13⟩ := HB.dec (t := 25) (g := w1.heap.size) (a := .bool n1) (b := .int .u64 a1) (c := .int .u64 b1) (d := .int .i64 s) V (by simp)
          obtain ⟨g2, p20, p21, p22, p23⟩ := HB.dec (t := 25) (g := w2.heap.size) (a := .bool n2) (b := .int .u64 a2) (c := .int .u64 b2) (d := .int .i64 t) V (by simp)
          obtain ⟨g4, p40, p41, p42, p43⟩ := HB.dec (t := 25) (g := w3.heap.size + 1) (a := .bool n3) (b := .int .u64 a3) (c := .int .u64 b3) (d := .int .i64 s) V (by simp)
          obtain ⟨g3, p30, p31, p32, p33⟩ := HB.dec (t := 25) (g := w3.heap.size) (a := .bool n9) (b := .int .u64 a9) (c := .int .u64 b9) (d := .int .i64 s) V (by simp)
          obtain ⟨g5, p50, p51, p52, p53⟩ := HB.dec (t := 25) (g := w6.heap.size) (a := .bool n5) (b := .int .u64 a5) (c := .int .u64 b5) (d := .int .i64 s) V (by simp)
          replace V := V.push #[.bool n6, .int .u64 a6, .int .u64 b6, .int .i64 t] 25
          go_wp2_with fail
          refine (qk_c _).mono ?_
          rintro e w8 ⟨_, rfl, rfl, hb⟩
          replace V := V.below hb
          clear hb
          clear g1 p10 p11 p12 p13 g2 p20 p21 p22 p23 g4 p40 p41 p42 p43 g3 p30 p31 p32 p33 g5 p50 p51 p52 p53
          obtain ⟨g1, p10, p11, p12, p13⟩ := HB.dec (t := 25) (g := w1.heap.size) (a := .bool n1) (b := .int .u64 a1) (c := .int .u64 b1) (d := .int .i64 s) V (by simp)
          obtain ⟨g2, p20, p21, p22, p23⟩ := HB.dec (t := 25) (g := w2.heap.size) (a := .bool n2) (b := .int .u64 a2) (c := .int .u64 b2) (d := .int .i64 t) V (by simp)
          obtain ⟨g4, p40, p41, p42, p43⟩ := HB.dec (t := 25) (g := w3.heap.size + 1) (a := .bool n3) (b := .int .u64 a3) (c := .int .u64 b3) (d := .int .i64 s) V (by simp)
          obtain ⟨g3, p30, p31, p32, p33⟩ := HB.dec (t := 25) (g := w3.heap.size) (a := .bool n9) (b := .int .u64 a9) (c := .int .u64 b9) (d := .int .i64 s) V (by simp)
          obtain ⟨g5, p50, p51, p52, p53⟩ := HB.dec (t := 25) (g := w6.heap.size) (a := .bool n5) (b := .int .u64 a5) (c := .int .u64 b5) (d := .int .i64 s) V (by simp)
          obtain ⟨g6, p60, p61, p62, p63⟩ := HB.dec (t := 25) (g := w7.heap.size) (a := .bool n6) (b := .int .u64 a6) (c := .int .u64 b6) (d := .int .i64 t) V (by simp)
          go_wp2_with fail
          refine (cmp_v n9 a9 b9 s ((δ.natAbs : Nat) : Int) n6 a6 b6 t 1 s (-1) _ D9e D6 HE.out H1.out ls lt0 s9 t9 (Or.inr ⟨ts, rfl⟩) HC1.out).mono ?_
          rintro e w9 ⟨_, rfl, rfl, hb⟩
          replace V := V.below hb
          clear hb
          clear g1 p10 p11 p12 p13 g2 p20 p21 p22 p23 g4 p40 p41 p42 p43 g3 p30 p31 p32 p33 g5 p50 p51 p52 p53 g6 p60 p61 p62 p63
          obtain ⟨g1, p10, p11, p12, p13⟩ := HB.dec (t := 25) (g := w1.heap.size) (a := .bool n1) (b := .int .u64 a1) (c := .int .u64 b1) (d := .int .i64 s) V (by simp)
          obtain ⟨g2, p20, p21, p22, p23⟩ := HB.dec (t := 25) (g := w2.heap.size) (a := .bool n2) (b := .int .u64 a2) (c := .int .u64 b2) (d := .int .i64 t) V (by simp)
          obtain ⟨g4, p40, p41, p42, p43⟩ := HB.dec (t := 25) (g := w3.heap.size + 1) (a := .bool n3) (b := .int .u64 a3) (c := .int .u64 b3) (d := .int .i64 s) V (by simp)
          obtain ⟨g3, p30, p31, p32, p33⟩ := HB.dec (t := 25) (g := w3.heap.size) (a := .bool n9) (b := .int .u64 a9) (c := .int .u64 b9) (d := .int .i64 s) V (by simp)
          obtain ⟨g5, p50, p51, p52, p53⟩ := HB.dec (t := 25) (g := w6.heap.size) (a := .bool n5) (b := .int .u64 a5) (c := .int .u64 b5) (d := .int .i64 s) V (by simp)
          obtain ⟨g6, p60, p61, p62, p63⟩ := HB.dec (t := 25) (g := w7.heap.size) (a := .bool n6) (b := .int .u64 a6) (c := .int .u64 b6) (d := .int .i64 t) V (by simp)
          obtain ⟨σ, hσ⟩ : ∃ σ, x.sign = σ := ⟨_, rfl⟩
          have hne : ((-1 : Int) == σ) = true := by
            have h := HFm.out (by have := Hd.out; omega)
            rw [HS.out, hσ] at h
            simpa using h
          have HSx := Lib.hid hσ
          clear hσ
          go_upto_region 19 with fail
          refine wp_region_det (S := fun w' => HB w [(w7.heap.size, 25, #[.bool n6, .int .u64 a6, .int .u64 b6, .int .i64 t]), (w6.heap.size, 25, #[.bool n5, .int .u64 a5, .int .u64 b5, .int .i64 s]), (w3.heap.size, 25, #[.bool n9, .int .u64 a9, .int .u64 b9, .int .i64 s]), (w3.heap.size + 1, 25, #[.bool n3, .int .u64 a3, .int .u64 b3, .int .i64 s]), (w2.heap.size, 25, #[.bool n2, .int .u64 a2, .int .u64 b2, .int .i64 t]), (w1.heap.size, 25, #[.bool n1, .int .u64 a1, .int .u64 b1, .int .i64 s])] w') (by kernel_rfl) (HB.drew V) ?_
          refine det_take (v := ?_) (i := 0) (fuel := 9) (by simp; rfl) (by kernel_rfl) (by kernel_rfl) (by kernel_rfl) (Or.inl ⟨by rfl, fun w' hS => Or.inl ⟨w', ?_, hS⟩⟩) ?_
          rotate_left
          · obtain ⟨-, c0, c1, c2, c3⟩ := HB.dec (t := 25) (g := w3.heap.size + 1) (a := .bool n3) (b := .int .u64 a3) (c := .int .u64 b3) (d := .int .i64 s) hS (by simp)
            go_simp
            all_goals with_reducible rfl
          simp only [Act.put, List.setIfInBounds_toArray, List.set_cons_zero, List.set_cons_succ]
          refine det_take (v := ?_) (i := 1) (fuel := 8) (by simp; rfl) (by kernel_rfl) (by kernel_rfl) (by kernel_rfl) (Or.inl ⟨by rfl, fun w' hS => Or.inr ⟨20, #[.agg #[.bool n3, .int .u64 a3, .int .u64 b3, .int .i64 s]], w', ?_, ?_⟩⟩) ?_
          rotate_left
          · go_simp
            all_goals with_reducible rfl
          · exact (sign_v n3 a3 b3 s δ (-1) _ D3 (sm_30 Hδ.out) ls s9 HS.out).mono fun e w2 ⟨_, hv, he, hb⟩ => ⟨by rw [he, hv], HB.below hS hb⟩
          simp only [Act.put, List.setIfInBounds_toArray, List.set_cons_zero, List.set_cons_succ]
          refine det_take (v := ?_) (i := 2) (fuel := 7) (by simp; rfl) (by kernel_rfl) (by kernel_rfl) (by kernel_rfl) (Or.inl ⟨by rfl, fun w' hS => Or.inl ⟨w', ?_, hS⟩⟩) ?_
          rotate_left
          · go_simp
            all_goals with_reducible rfl
          simp only [Act.put, List.setIfInBounds_toArray, List.set_cons_zero, List.set_cons_succ]
          refine det_take (v := ?_) (i := 3) (fuel := 6) (by simp; rfl) (by kernel_rfl) (by kernel_rfl) (by kernel_rfl) (Or.inl ⟨by rfl, fun w' hS => Or.inl ⟨w', ?_, hS⟩⟩) ?_
          rotate_left
          · go_simp
            all_goals with_reducible rfl
          simp only [Act.put, List.setIfInBounds_toArray, List.set_cons_zero, List.set_cons_succ]
          refine det_take (v := ?_) (i := 4) (fuel := 5) (by simp; rfl) (by kernel_rfl) (by kernel_rfl) (by kernel_rfl) (Or.inl ⟨by rfl, fun w' hS => Or.inl ⟨w', ?_, hS⟩⟩) ?_
          rotate_left
          · obtain ⟨-, c0, c1, c2, c3⟩ := HB.dec (t := 25) (g := w3.heap.size + 1) (a := .bool n3) (b := .int .u64 a3) (c := .int .u64 b3) (d := .int .i64 s) hS (by simp)
            go_simp
            all_goals with_reducible rfl
          simp only [Act.put, List.setIfInBounds_toArray, List.set_cons_zero, List.set_cons_succ]
          refine det_take (v := ?_) (i := 5) (fuel := 4) (by simp; rfl) (by kernel_rfl) (by kernel_rfl) (by kernel_rfl) (Or.inl ⟨by rfl, fun w' hS => Or.inr ⟨20, #[.agg #[.bool n3, .int .u64 a3, .int .u64 b3, .int .i64 s]], w', ?_, ?_⟩⟩) ?_
          rotate_left
          · go_simp
            all_goals with_reducible rfl
          · exact (sign_v n3 a3 b3 s δ (-1) _ D3 (sm_30 Hδ.out) ls s9 HS.out).mono fun e w2 ⟨_, hv, he, hb⟩ => ⟨by rw [he, hv], HB.below hS hb⟩
          simp only [Act.put, List.setIfInBounds_toArray, List.set_cons_zero, List.set_cons_succ]
          refine det_take (v := ?_) (i := 6) (fuel := 3) (by simp; rfl) (by kernel_rfl) (by kernel_rfl) (by kernel_rfl) (Or.inl ⟨by rfl, fun w' hS => Or.inl ⟨w', ?_, hS⟩⟩) ?_
          rotate_left
          · obtain ⟨-, c0, c1, c2, c3⟩ := HB.dec (t := 25) (g := w1.heap.size) (a := .bool n1) (b := .int .u64 a1) (c := .int .u64 b1) (d := .int .i64 s) hS (by simp)
            go_simp
            all_goals with_reducible rfl
          simp only [Act.put, List.setIfInBounds_toArray, List.set_cons_zero, List.set_cons_succ]
          refine det_take (v := ?_) (i := 7) (fuel := 2) (by simp; rfl) (by kernel_rfl) (by kernel_rfl) (by kernel_rfl) (Or.inl ⟨by rfl, fun w' hS => Or.inr ⟨20, #[.agg #[.bool n1, .int .u64 a1, .int .u64 b1, .int .i64 s]], w', ?_, ?_⟩⟩) ?_
          rotate_left
          · go_simp
            all_goals with_reducible rfl
          · exact (sign_v n1 a1 b1 s x σ _ D1 (sm_30 Hx.out) ls s9 HSx.out).mono fun e w2 ⟨_, hv, he, hb⟩ => ⟨by rw [he, hv], HB.below hS hb⟩
          simp only [Act.put, List.setIfInBounds_toArray, List.set_cons_zero, List.set_cons_succ]
          refine det_take (v := ?_) (i := 8) (fuel := 1) (by simp; rfl) (by kernel_rfl) (by kernel_rfl) (by kernel_rfl) (Or.inl ⟨by rfl, fun w' hS => Or.inl ⟨w', ?_, hS⟩⟩) ?_
          rotate_left
          · go_simp
            all_goals with_reducible rfl
          simp only [Act.put, List.setIfInBounds_toArray, List.set_cons_zero, List.set_cons_succ]
          refine det_take (v := ?_) (i := 9) (fuel := 0) (by simp; rfl) (by kernel_rfl) (by kernel_rfl) (by kernel_rfl) (Or.inl ⟨by rfl, fun w' hS => Or.inl ⟨w', ?_, hS⟩⟩) ?_
          rotate_left
          · go_simp
            all_goals with_reducible rfl
          simp only [Act.put, List.setIfInBounds_toArray, List.set_cons_zero, List.set_cons_succ]
          refine det_done (by kernel_rfl) (fun w' hS => ?_) _
          clear g1 p10 p11 p12 p13 g2 p20 p21 p22 p23 g4 p40 p41 p42 p43 g3 p30 p31 p32 p33 g5 p50 p51 p52 p53 g6 p60 p61 p62 p63
          clear V
          have V := hS
          clear hS
          obtain ⟨g1, p10, p11, p12, p13⟩ := HB.dec (t := 25) (g := w1.heap.size) (a := .bool n1) (b := .int .u64 a1) (c := .int .u64 b1) (d := .int .i64 s) V (by simp)
          obtain ⟨g2, p20, p21, p22, p23⟩ := HB.dec (t := 25) (g := w2.heap.size) (a := .bool n2) (b := .int .u64 a2) (c := .int .u64 b2) (d := .int .i64 t) V (by simp)
          obtain ⟨g4, p40, p41, p42, p43⟩ := HB.dec (t := 25) (g := w3.heap.size + 1) (a := .bool n3) (b := .int .u64 a3) (c := .int .u64 b3) (d := .int .i64 s) V (by simp)
          obtain ⟨g3, p30, p31, p32, p33⟩ := HB.dec (t := 25) (g := w3.heap.size) (a := .bool n9) (b := .int .u64 a9) (c := .int .u64 b9) (d := .int .i64 s) V (by simp)
          obtain ⟨g5, p50, p51, p52, p53⟩ := HB.dec (t := 25) (g := w6.heap.size) (a := .bool n5) (b := .int .u64 a5) (c := .int .u64 b5) (d := .int .i64 s) V (by simp)
          obtain ⟨g6, p60, p61, p62, p63⟩ := HB.dec (t := 25) (g := w7.heap.size) (a := .bool n6) (b := .int .u64 a6) (c := .int .u64 b6) (d := .int .i64 t) V (by simp)
          go_wp2_with fail
          refine (quant_v n2 a2 b2 t y t 1 n2 a2 b2 y _ D2 D2 (sm_30 Hy.out) lt0 t9 lt0 t9 (by decide) N (by rw [quantN_up n2 (Int.le_refl t), Int.sub_self]; simpa using HYN.out) (by have := HNb.out; omega) (by rw [← HYN.out]; exact zOf_self D2)).mono ?_
          rintro e wc ⟨_, rfl, rfl, hb⟩
          replace V := V.below hb
          clear hb
          clear g1 p10 p11 p12 p13 g2 p20 p21 p22 p23 g4 p40 p41 p42 p43 g3 p30 p31 p32 p33 g5 p50 p51 p52 p53 g6 p60 p61 p62 p63
          obtain ⟨g1, p10, p11, p12, p13⟩ := HB.dec (t := 25) (g := w1.heap.size) (a := .bool n1) (b := .int .u64 a1) (c := .int .u64 b1) (d := .int .i64 s) V (by simp)
          obtain ⟨g2, p20, p21, p22, p23⟩ := HB.dec (t := 25) (g := w2.heap.size) (a := .bool n2) (b := .int .u64 a2) (c := .int .u64 b2) (d := .int .i64 t) V (by simp)
          obtain ⟨g4, p40, p41, p42, p43⟩ := HB.dec (t := 25) (g := w3.heap.size + 1) (a := .bool n3) (b := .int .u64 a3) (c := .int .u64 b3) (d := .int .i64 s) V (by simp)
          obtain ⟨g3, p30, p31, p32, p33⟩ := HB.dec (t := 25) (g := w3.heap.size) (a := .bool n9) (b := .int .u64 a9) (c := .int .u64 b9) (d := .int .i64 s) V (by simp)
          obtain ⟨g5, p50, p51, p52, p53⟩ := HB.dec (t := 25) (g := w6.heap.size) (a := .bool n5) (b := .int .u64 a5) (c := .int .u64 b5) (d := .int .i64 s) V (by simp)
          obtain ⟨g6, p60, p61, p62, p63⟩ := HB.dec (t := 25) (g := w7.heap.size) (a := .bool n6) (b := .int .u64 a6) (c := .int .u64 b6) (d := .int .i64 t) V (by simp)
          replace V := V.push #[.bool n2, .int .u64 a2, .int .u64 b2, .int .i64 t] 25
          go_wp2_with fail
          refine (quant_q n2 a2 b2 t y s 1 _ D2 (sm_30 Hy.out) lt0 t9 ls s9 (by decide) (y.natAbs * Q) (by rw [quantN_up n2 ts, HQ.out]) (by have h := HYQ.out; unfold Sm at h; rw [Int.natAbs_mul, Int.natAbs_natCast] at h; omega)).mono ?_
          rintro e wd ⟨_, ⟨n8, a8, b8, D8, rfl⟩, rfl, hb⟩
          rw [← zOf_mul, zOf_self D2] at D8
          replace V := V.below hb
          clear hb
          clear g1 p10 p11 p12 p13 g2 p20 p21 p22 p23 g4 p40 p41 p42 p43 g3 p30 p31 p32 p33 g5 p50 p51 p52 p53 g6 p60 p61 p62 p63
          obtain ⟨g1, p10, p11, p12, p13⟩ := HB.dec (t := 25) (g := w1.heap.size) (a := .bool n1) (b := .int .u64 a1) (c := .int .u64 b1) (d := .int .i64 s) V (by simp)
          obtain ⟨g2, p20, p21, p22, p23⟩ := HB.dec (t := 25) (g := w2.heap.size) (a := .bool n2) (b := .int .u64 a2) (c := .int .u64 b2) (d := .int .i64 t) V (by simp)
          obtain ⟨g4, p40, p41, p42, p43⟩ := HB.dec (t := 25) (g := w3.heap.size + 1) (a := .bool n3) (b := .int .u64 a3) (c := .int .u64 b3) (d := .int .i64 s) V (by simp)
          obtain ⟨g3, p30, p31, p32, p33⟩ := HB.dec (t := 25) (g := w3.heap.size) (a := .bool n9) (b := .int .u64 a9) (c := .int .u64 b9) (d := .int .i64 s) V (by simp)
          obtain ⟨g5, p50, p51, p52, p53⟩ := HB.dec (t := 25) (g := w6.heap.size) (a := .bool n5) (b := .int .u64 a5) (c := .int .u64 b5) (d := .int .i64 s) V (by simp)
          obtain ⟨g6, p60, p61, p62, p63⟩ := HB.dec (t := 25) (g := w7.heap.size) (a := .bool n6) (b := .int .u64 a6) (c := .int .u64 b6) (d := .int .i64 t) V (by simp)
          obtain ⟨g7, p70, p71, p72, p73⟩ := HB.dec (t := 25) (g := wc.heap.size) (a := .bool n2) (b := .int .u64 a2) (c := .int .u64 b2) (d := .int .i64 t) V (by simp)
          replace V := V.push #[.bool n8, .int .u64 a8, .int .u64 b8, .int .i64 s] 25
          have q2 := eqW2_yes (a := a2) (b := b2) (c := a2) (d := b2) ⟨rfl, rfl⟩
          go_wp2_with fail
          refine (cmp_v n8 a8 b8 s (y * (Q : Int)) n2 a2 b2 t y s 0 _ D8 D2 HYQ.out Hy.out ls lt0 s9 t9 (Or.inr ⟨ts, rfl⟩) HCD.out).mono ?_
          rintro e we ⟨_, rfl, rfl, hb⟩
          replace V := V.below hb
          clear hb
          clear g1 p10 p11 p12 p13 g2 p20 p21 p22 p23 g4 p40 p41 p42 p43 g3 p30 p31 p32 p33 g5 p50 p51 p52 p53 g6 p60 p61 p62 p63 g7 p70 p71 p72 p73
          have HB1 := Lib.hid V.1
          clear V
          go_wp2
          go_ret
          exact ⟨rfl, HB1.out⟩
      · as_aux_lemma =>
          have hsg : δ.sign = 0 := by rw [hd]; rfl
          have HS := Lib.hid hsg
          go_wp2_with fail
          refine (sign_v n3 a3 b3 s δ (0) _ D3 (sm_30 Hδ.out) ls s9 HS.out).mono ?_
          rintro e w4 ⟨_, rfl, rfl, hb⟩
          replace V := V.below hb
          clear hb
          clear g1 p10 p11 p12 p13 g2 p20 p21 p22 p23
          have Hd := Lib.hid hd
          clear hsg hd
          obtain ⟨g1, p10, p11, p12, p13⟩ := HB.dec (t := 25) (g := w1.heap.size) (a := .bool n1) (b := .int .u64 a1) (c := .int .u64 b1) (d := .int .i64 s) V (by simp)
          obtain ⟨g2, p20, p21, p22, p23⟩ := HB.dec (t := 25) (g := w2.heap.size) (a := .bool n2) (b := .int .u64 a2) (c := .int .u64 b2) (d := .int .i64 t) V (by simp)
          obtain ⟨g3, p30, p31, p32, p33⟩ := HB.dec (t := 25) (g := w3.heap.size) (a := .bool n3) (b := .int .u64 a3) (c := .int .u64 b3) (d := .int .i64 s) V (by simp)
          obtain ⟨g4, p40, p41, p42, p43⟩ := HB.dec (t := 25) (g := w3.heap.size + 1) (a := .bool n3) (b := .int .u64 a3) (c := .int .u64 b3) (d := .int .i64 s) V (by simp)
          have e9 : ((δ.natAbs : Nat) : Int) = δ := by have := Hd.out; omega
          have D3e : DecIs n3 a3 b3 ((δ.natAbs : Nat) : Int) := by rw [e9]; exact D3
          clear e9
          go_wp2_with fail
          refine (add_d n3 a3 b3 s ((δ.natAbs : Nat) : Int) n3 a3 b3 s ((δ.natAbs : Nat) : Int) s _ D3e D3e HE.out HE.out ls ls s9 s9 (Or.inr ⟨Int.le_refl _, rfl⟩)).mono ?_
          rintro e w6 ⟨_, ⟨n5, a5, b5, D5, rfl⟩, rfl, hb⟩
          rw [zAt_self] at D5
          replace V := V.below hb
          clear hb
          clear g1 p10 p11 p12 p13 g2 p20 p21 p22 p23 g3 p30 p31 p32 p33 g4 p40 p41 p42 p43
          obtain ⟨g1, p10, p11, p12, p13⟩ := HB.dec (t := 25) (g := w1.heap.size) (a := .bool n1) (b := .int .u64 a1) (c := .int .u64 b1) (d := .int .i64 s) V (by simp)
          obtain ⟨g2, p20, p21, p22, p23⟩ := HB.dec (t := 25) (g := w2.heap.size) (a := .bool n2) (b := .int .u64 a2) (c := .int .u64 b2) (d := .int .i64 t) V (by simp)
          obtain ⟨g3, p30, p31, p32, p33⟩ := HB.dec (t := 25) (g := w3.heap.size) (a := .bool n3) (b := .int .u64 a3) (c := .int .u64 b3) (d := .int .i64 s) V (by simp)
          obtain ⟨g4, p40, p41, p42, p43⟩ := HB.dec (t := 25) (g := w3.heap.size + 1) (a := .bool n3) (b := .int .u64 a3) (c := .int .u64 b3) (d := .int .i64 s) V (by simp)
          replace V := V.push #[.bool n5, .int .u64 a5, .int .u64 b5, .int .i64 s] 25
          go_wp2_with fail
          refine (refOf_c 1 t _ (by decide) (by decide) lt0 t9).mono ?_
          rintro e w7 ⟨_, ⟨n6, a6, b6, D6, rfl⟩, rfl, hb⟩
          replace V := V.below hb
          clear hb
          clear g1 p10 p11 p12 p13 g2 p20 p21 p22 p23 g3 p30 p31 p32 p33 g4 p40 p41 p42 p43
          obtain ⟨g1, p10, p11, p12, p13⟩ := HB.dec (t := 25) (g := w1.heap.size) (a := .bool n1) (b := .int .u64 a1) (c := .int .u64 b1) (d := .int .i64 s) V (by simp)
          obtain ⟨g2, p20, p21, p22, p23⟩ := HB.dec (t := 25) (g := w2.heap.size) (a := .bool n2) (b := .int .u64 a2) (c := .int .u64 b2) (d := .int .i64 t) V (by simp)
          obtain ⟨g3, p30, p31, p32, p33⟩ := HB.dec (t := 25) (g := w3.heap.size) (a := .bool n3) (b := .int .u64 a3) (c := .int .u64 b3) (d := .int .i64 s) V (by simp)
          obtain ⟨g4, p40, p41, p42, p43⟩ := HB.dec (t := 25) (g := w3.heap.size + 1) (a := .bool n3) (b := .int .u64 a3) (c := .int .u64 b3) (d := .int .i64 s) V (by simp)
          obtain ⟨g5, p50, p51, p52, p53⟩ := HB.dec (t := 25) (g := w6.heap.size) (a := .bool n5) (b := .int .u64 a5) (c := .int .u64 b5) (d := .int .i64 s) V (by simp)
          replace V := V.push #[.bool n6, .int .u64 a6, .int .u64 b6, .int .i64 t] 25
          go_wp2_with fail
          refine (qk_c _).mono ?_
          rintro e w8 ⟨_, rfl, rfl, hb⟩
          replace V := V.below hb
          clear hb
          clear g1 p10 p11 p12 p13 g2 p20 p21 p22 p23 g3 p30 p31 p32 p33 g4 p40 p41 p42 p43 g5 p50 p51 p52 p53
          obtain ⟨g1, p10, p11, p12, p13⟩ := HB.dec (t := 25) (g := w1.heap.size) (a := .bool n1) (b := .int .u64 a1) (c := .int .u64 b1) (d := .int .i64 s) V (by simp)
          obtain ⟨g2, p20, p21, p22, p23⟩ := HB.dec (t := 25) (g := w2.heap.size) (a := .bool n2) (b := .int .u64 a2) (c := .int .u64 b2) (d := .int .i64 t) V (by simp)
          obtain ⟨g3, p30, p31, p32, p33⟩ := HB.dec (t := 25) (g := w3.heap.size) (a := .bool n3) (b := .int .u64 a3) (c := .int .u64 b3) (d := .int .i64 s) V (by simp)
          obtain ⟨g4, p40, p41, p42, p43⟩ := HB.dec (t := 25) (g := w3.heap.size + 1) (a := .bool n3) (b := .int .u64 a3) (c := .int .u64 b3) (d := .int .i64 s) V (by simp)
          obtain ⟨g5, p50, p51, p52, p53⟩ := HB.dec (t := 25) (g := w6.heap.size) (a := .bool n5) (b := .int .u64 a5) (c := .int .u64 b5) (d := .int .i64 s) V (by simp)
          obtain ⟨g6, p60, p61, p62, p63⟩ := HB.dec (t := 25) (g := w7.heap.size) (a := .bool n6) (b := .int .u64 a6) (c := .int .u64 b6) (d := .int .i64 t) V (by simp)
          go_wp2_with fail
          refine (cmp_v n3 a3 b3 s ((δ.natAbs : Nat) : Int) n6 a6 b6 t 1 s (-1) _ D3e D6 HE.out H1.out ls lt0 s9 t9 (Or.inr ⟨ts, rfl⟩) HC1.out).mono ?_
          rintro e w9 ⟨_, rfl, rfl, hb⟩
          replace V := V.below hb
          clear hb
          clear g1 p10 p11 p12 p13 g2 p20 p21 p22 p23 g3 p30 p31 p32 p33 g4 p40 p41 p42 p43 g5 p50 p51 p52 p53 g6 p60 p61 p62 p63
          obtain ⟨g1, p10, p11, p12, p13⟩ := HB.dec (t := 25) (g := w1.heap.size) (a := .bool n1) (b := .int .u64 a1) (c := .int .u64 b1) (d := .int .i64 s) V (by simp)
          obtain ⟨g2, p20, p21, p22, p23⟩ := HB.dec (t := 25) (g := w2.heap.size) (a := .bool n2) (b := .int .u64 a2) (c := .int .u64 b2) (d := .int .i64 t) V (by simp)
          obtain ⟨g3, p30, p31, p32, p33⟩ := HB.dec (t := 25) (g := w3.heap.size) (a := .bool n3) (b := .int .u64 a3) (c := .int .u64 b3) (d := .int .i64 s) V (by simp)
          obtain ⟨g4, p40, p41, p42, p43⟩ := HB.dec (t := 25) (g := w3.heap.size + 1) (a := .bool n3) (b := .int .u64 a3) (c := .int .u64 b3) (d := .int .i64 s) V (by simp)
          obtain ⟨g5, p50, p51, p52, p53⟩ := HB.dec (t := 25) (g := w6.heap.size) (a := .bool n5) (b := .int .u64 a5) (c := .int .u64 b5) (d := .int .i64 s) V (by simp)
          obtain ⟨g6, p60, p61, p62, p63⟩ := HB.dec (t := 25) (g := w7.heap.size) (a := .bool n6) (b := .int .u64 a6) (c := .int .u64 b6) (d := .int .i64 t) V (by simp)
          obtain ⟨σ, hσ⟩ : ∃ σ, x.sign = σ := ⟨_, rfl⟩
          have HSx := Lib.hid hσ
          clear hσ
          go_upto_region 19 with fail
          refine wp_region_det (S := fun w' => HB w [(w7.heap.size, 25, #[.bool n6, .int .u64 a6, .int .u64 b6, .int .i64 t]), (w6.heap.size, 25, #[.bool n5, .int .u64 a5, .int .u64 b5, .int .i64 s]), (w3.heap.size + 1, 25, #[.bool n3, .int .u64 a3, .int .u64 b3, .int .i64 s]), (w3.heap.size, 25, #[.bool n3, .int .u64 a3, .int .u64 b3, .int .i64 s]), (w2.heap.size, 25, #[.bool n2, .int .u64 a2, .int .u64 b2, .int .i64 t]), (w1.heap.size, 25, #[.bool n1, .int .u64 a1, .int .u64 b1, .int .i64 s])] w') (by kernel_rfl) (HB.drew V) ?_
          refine det_take (v := ?_) (i := 0) (fuel := 9) (by simp; rfl) (by kernel_rfl) (by kernel_rfl) (by kernel_rfl) (Or.inl ⟨by rfl, fun w' hS => Or.inl ⟨w', ?_, hS⟩⟩) ?_
          rotate_left
          · obtain ⟨-, c0, c1, c2, c3⟩ := HB.dec (t := 25) (g := w3.heap.size + 1) (a := .bool n3) (b := .int .u64 a3) (c := .int .u64 b3) (d := .int .i64 s) hS (by simp)
            go_simp
            all_goals with_reducible rfl
          simp only [Act.put, List.setIfInBounds_toArray, List.set_cons_zero, List.set_cons_succ]
          refine det_take (v := ?_) (i := 1) (fuel := 8) (by simp; rfl) (by kernel_rfl) (by kernel_rfl) (by kernel_rfl) (Or.inl ⟨by rfl, fun w' hS => Or.inr ⟨20, #[.agg #[.bool n3, .int .u64 a3, .int .u64 b3, .int .i64 s]], w', ?_, ?_⟩⟩) ?_
          rotate_left
          · go_simp
            all_goals with_reducible rfl
          · exact (sign_v n3 a3 b3 s δ (0) _ D3 (sm_30 Hδ.out) ls s9 HS.out).mono fun e w2 ⟨_, hv, he, hb⟩ => ⟨by rw [he, hv], HB.below hS hb⟩
          simp only [Act.put, List.setIfInBounds_toArray, List.set_cons_zero, List.set_cons_succ]
          refine det_take (v := ?_) (i := 2) (fuel := 7) (by simp; rfl) (by kernel_rfl) (by kernel_rfl) (by kernel_rfl) (Or.inl ⟨by rfl, fun w' hS => Or.inl ⟨w', ?_, hS⟩⟩) ?_
          rotate_left
          · go_simp
            all_goals with_reducible rfl
          simp only [Act.put, List.setIfInBounds_toArray, List.set_cons_zero, List.set_cons_succ]
          refine det_take (v := ?_) (i := 3) (fuel := 6) (by simp; rfl) (by kernel_rfl) (by kernel_rfl) (by kernel_rfl) (Or.inl ⟨by rfl, fun w' hS => Or.inl ⟨w', ?_, hS⟩⟩) ?_
          rotate_left
          · go_simp
            all_goals with_reducible rfl
          simp only [Act.put, List.setIfInBounds_toArray, List.set_cons_zero, List.set_cons_succ]
          refine det_take (v := undef) (i := 4) (fuel := 5) (by simp; rfl) (by kernel_rfl) (by kernel_rfl) (by kernel_rfl) (Or.inr ⟨by rfl, rfl⟩) ?_
          simp only [Act.put, List.setIfInBounds_toArray, List.set_cons_zero, List.set_cons_succ]
          refine det_take (v := undef) (i := 5) (fuel := 4) (by simp; rfl) (by kernel_rfl) (by kernel_rfl) (by kernel_rfl) (Or.inr ⟨by rfl, rfl⟩) ?_
          simp only [Act.put, List.setIfInBounds_toArray, List.set_cons_zero, List.set_cons_succ]
          refine det_take (v := undef) (i := 6) (fuel := 3) (by simp; rfl) (by kernel_rfl) (by kernel_rfl) (by kernel_rfl) (Or.inr ⟨by rfl, rfl⟩) ?_
          simp only [Act.put, List.setIfInBounds_toArray, List.set_cons_zero, List.set_cons_succ]
          refine det_take (v := undef) (i := 7) (fuel := 2) (by simp; rfl) (by kernel_rfl) (by kernel_rfl) (by kernel_rfl) (Or.inr ⟨by rfl, rfl⟩) ?_
          simp only [Act.put, List.setIfInBounds_toArray, List.set_cons_zero, List.set_cons_succ]
          refine det_take (v := undef) (i := 8) (fuel := 1) (by simp; rfl) (by kernel_rfl) (by kernel_rfl) (by kernel_rfl) (Or.inr ⟨by rfl, rfl⟩) ?_
          simp only [Act.put, List.setIfInBounds_toArray, List.set_cons_zero, List.set_cons_succ]
          refine det_take (v := ?_) (i := 9) (fuel := 0) (by simp; rfl) (by kernel_rfl) (by kernel_rfl) (by kernel_rfl) (Or.inl ⟨by rfl, fun w' hS => Or.inl ⟨w', ?_, hS⟩⟩) ?_
          rotate_left
          · go_simp
            all_goals with_reducible rfl
          simp only [Act.put, List.setIfInBounds_toArray, List.set_cons_zero, List.set_cons_succ]
          refine det_done (by kernel_rfl) (fun w' hS => ?_) _
          clear g1 p10 p11 p12 p13 g2 p20 p21 p22 p23 g3 p30 p31 p32 p33 g4 p40 p41 p42 p43 g5 p50 p51 p52 p53 g6 p60 p61 p62 p63
          clear V
          have V := hS
          clear hS
          obtain ⟨g1, p10, p11, p12, p13⟩ := HB.dec (t := 25) (g := w1.heap.size) (a := .bool n1) (b := .int .u64 a1) (c := .int .u64 b1) (d := .int .i64 s) V (by simp)
          obtain ⟨g2, p20, p21, p22, p23⟩ := HB.dec (t := 25) (g := w2.heap.size) (a := .bool n2) (b := .int .u64 a2) (c := .int .u64 b2) (d := .int .i64 t) V (by simp)
          obtain ⟨g3, p30, p31, p32, p33⟩ := HB.dec (t := 25) (g := w3.heap.size) (a := .bool n3) (b := .int .u64 a3) (c := .int .u64 b3) (d := .int .i64 s) V (by simp)
          obtain ⟨g4, p40, p41, p42, p43⟩ := HB.dec (t := 25) (g := w3.heap.size + 1) (a := .bool n3) (b := .int .u64 a3) (c := .int .u64 b3) (d := .int .i64 s) V (by simp)
          obtain ⟨g5, p50, p51, p52, p53⟩ := HB.dec (t := 25) (g := w6.heap.size) (a := .bool n5) (b := .int .u64 a5) (c := .int .u64 b5) (d := .int .i64 s) V (by simp)
          obtain ⟨g6, p60, p61, p62, p63⟩ := HB.dec (t := 25) (g := w7.heap.size) (a := .bool n6) (b := .int .u64 a6) (c := .int .u64 b6) (d := .int .i64 t) V (by simp)
          go_wp2_with fail
          refine (quant_v n2 a2 b2 t y t 1 n2 a2 b2 y _ D2 D2 (sm_30 Hy.out) lt0 t9 lt0 t9 (by decide) N (by rw [quantN_up n2 (Int.le_refl t), Int.sub_self]; simpa using HYN.out) (by have := HNb.out; omega) (by rw [← HYN.out]; exact zOf_self D2)).mono ?_
          rintro e wc ⟨_, rfl, rfl, hb⟩
          replace V := V.below hb
          clear hb
          clear g1 p10 p11 p12 p13 g2 p20 p21 p22 p23 g3 p30 p31 p32 p33 g4 p40 p41 p42 p43 g5 p50 p51 p52 p53 g6 p60 p61 p62 p63
          obtain ⟨g1, p10, p11, p12, p13⟩ := HB.dec (t := 25) (g := w1.heap.size) (a := .bool n1) (b := .int .u64 a1) (c := .int .u64 b1) (d := .int .i64 s) V (by simp)
          obtain ⟨g2, p20, p21, p22, p23⟩ := HB.dec (t := 25) (g := w2.heap.size) (a := .bool n2) (b := .int .u64 a2) (c := .int .u64 b2) (d := .int .i64 t) V (by simp)
          obtain ⟨g3, p30, p31, p32, p33⟩ := HB.dec (t := 25) (g := w3.heap.size) (a := .bool n3) (b := .int .u64 a3) (c := .int .u64 b3) (d := .int .i64 s) V (by simp)
          obtain ⟨g4, p40, p41, p42, p43⟩ := HB.dec (t := 25) (g := w3.heap.size + 1) (a := .bool n3) (b := .int .u64 a3) (c := .int .u64 b3) (d := .int .i64 s) V (by simp)
          obtain ⟨g5, p50, p51, p52, p53⟩ := HB.dec (t := 25) (g := w6.heap.size) (a := .bool n5) (b := .int .u64 a5) (c := .int .u64 b5) (d := .int .i64 s) V (by simp)
          obtain ⟨g6, p60, p61, p62, p63⟩ := HB.dec (t := 25) (g := w7.heap.size) (a := .bool n6) (b := .int .u64 a6) (c := .int .u64 b6) (d := .int .i64 t) V (by simp)
          replace V := V.push #[.bool n2, .int .u64 a2, .int .u64 b2, .int .i64 t] 25
          go_wp2_with fail
          refine (quant_q n2 a2 b2 t y s 1 _ D2 (sm_30 Hy.out) lt0 t9 ls s9 (by decide) (y.natAbs * Q) (by rw [quantN_up n2 ts, HQ.out]) (by have h := HYQ.out; unfold Sm at h; rw [Int.natAbs_mul, Int.natAbs_natCast] at h; omega)).mono ?_
          rintro e wd ⟨_, ⟨n8, a8, b8, D8, rfl⟩, rfl, hb⟩
          rw [← zOf_mul, zOf_self D2] at D8
          replace V := V.below hb
          clear hb
          clear g1 p10 p11 p12 p13 g2 p20 p21 p22 p23 g3 p30 p31 p32 p33 g4 p40 p41 p42 p43 g5 p50 p51 p52 p53 g6 p60 p61 p62 p63
          obtain ⟨g1, p10, p11, p12, p13⟩ := HB.dec (t := 25) (g := w1.heap.size) (a := .bool n1) (b := .int .u64 a1) (c := .int .u64 b1) (d := .int .i64 s) V (by simp)
          obtain ⟨g2, p20, p21, p22, p23⟩ := HB.dec (t := 25) (g := w2.heap.size) (a := .bool n2) (b := .int .u64 a2) (c := .int .u64 b2) (d := .int .i64 t) V (by simp)
          obtain ⟨g3, p30, p31, p32, p33⟩ := HB.dec (t := 25) (g := w3.heap.size) (a := .bool n3) (b := .int .u64 a3) (c := .int .u64 b3) (d := .int .i64 s) V (by simp)
          obtain ⟨g4, p40, p41, p42, p43⟩ := HB.dec (t := 25) (g := w3.heap.size + 1) (a := .bool n3) (b := .int .u64 a3) (c := .int .u64 b3) (d := .int .i64 s) V (by simp)
          obtain ⟨g5, p50, p51, p52, p53⟩ := HB.dec (t := 25) (g := w6.heap.size) (a := .bool n5) (b := .int .u64 a5) (c := .int .u64 b5) (d := .int .i64 s) V (by simp)
          obtain ⟨g6, p60, p61, p62, p63⟩ := HB.dec (t := 25) (g := w7.heap.size) (a := .bool n6) (b := .int .u64 a6) (c := .int .u64 b6) (d := .int .i64 t) V (by simp)
          obtain ⟨g7, p70, p71, p72, p73⟩ := HB.dec (t := 25) (g := wc.heap.size) (a := .bool n2) (b := .int .u64 a2) (c := .int .u64 b2) (d := .int .i64 t) V (by simp)
          replace V := V.push #[.bool n8, .int .u64 a8, .int .u64 b8, .int .i64 s] 25
          have q2 := eqW2_yes (a := a2) (b := b2) (c := a2) (d := b2) ⟨rfl, rfl⟩
          go_wp2_with fail
          refine (cmp_v n8 a8 b8 s (y * (Q : Int)) n2 a2 b2 t y s 0 _ D8 D2 HYQ.out Hy.out ls lt0 s9 t9 (Or.inr ⟨ts, rfl⟩) HCD.out).mono ?_
          rintro e we ⟨_, rfl, rfl, hb⟩
          replace V := V.below hb
          clear hb
          clear g1 p10 p11 p12 p13 g2 p20 p21 p22 p23 g3 p30 p31 p32 p33 g4 p40 p41 p42 p43 g5 p50 p51 p52 p53 g6 p60 p61 p62 p63 g7 p70 p71 p72 p73
          have HB1 := Lib.hid V.1
          clear V
          go_wp2
          go_ret
          exact ⟨rfl, HB1.out⟩
      · as_aux_lemma =>
          have hsg : δ.sign = 1 := Int.sign_eq_one_of_pos hd
          have HS := Lib.hid hsg
          go_wp2_with fail
          refine (sign_v n3 a3 b3 s δ (1) _ D3 (sm_30 Hδ.out) ls s9 HS.out).mono ?_
          rintro e w4 ⟨_, rfl, rfl, hb⟩
          replace V := V.below hb
          clear hb
          clear g1 p10 p11 p12 p13 g2 p20 p21 p22 p23
          have Hd := Lib.hid hd
          clear hsg hd
          obtain ⟨g1, p10, p11, p12, p13⟩ := HB.dec (t := 25) (g := w1.heap.size) (a := .bool n1) (b := .int .u64 a1) (c := .int .u64 b1) (d := .int .i64 s) V (by simp)
          obtain ⟨g2, p20, p21, p22, p23⟩ := HB.dec (t := 25) (g := w2.heap.size) (a := .bool n2) (b := .int .u64 a2) (c := .int .u64 b2) (d := .int .i64 t) V (by simp)
          obtain ⟨g3, p30, p31, p32, p33⟩ := HB.dec (t := 25) (g := w3.heap.size) (a := .bool n3) (b := .int .u64 a3) (c := .int .u64 b3) (d := .int .i64 s) V (by simp)
          obtain ⟨g4, p40, p41, p42, p43⟩ := HB.dec (t := 25) (g := w3.heap.size + 1) (a := .bool n3) (b := .int .u64 a3) (c := .int .u64 b3) (d := .int .i64 s) V (by simp)
          have e9 : ((δ.natAbs : Nat) : Int) = δ := by have := Hd.out; omega
          have D3e : DecIs n3 a3 b3 ((δ.natAbs : Nat) : Int) := by rw [e9]; exact D3
          clear e9
          go_wp2_with fail
          refine (add_d n3 a3 b3 s ((δ.natAbs : Nat) : Int) n3 a3 b3 s ((δ.natAbs : Nat) : Int) s _ D3e D3e HE.out HE.out ls ls s9 s9 (Or.inr ⟨Int.le_refl _, rfl⟩)).mono ?_
          rintro e w6 ⟨_, ⟨n5, a5, b5, D5, rfl⟩, rfl, hb⟩
          rw [zAt_self] at D5
          replace V := V.below hb
          clear hb
          clear g1 p10 p11 p12 p13 g2 p20 p21 p22 p23 g3 p30 p31 p32 p33 g4 p40 p41 p42 p43
          obtain ⟨g1, p10, p11, p12, p13⟩ := HB.dec (t := 25) (g := w1.heap.size) (a := .bool n1) (b := .int .u64 a1) (c := .int .u64 b1) (d := .int .i64 s) V (by simp)
          obtain ⟨g2, p20, p21, p22, p23⟩ := HB.dec (t := 25) (g := w2.heap.size) (a := .bool n2) (b := .int .u64 a2) (c := .int .u64 b2) (d := .int .i64 t) V (by simp)
          obtain ⟨g3, p30, p31, p32, p33⟩ := HB.dec (t := 25) (g := w3.heap.size) (a := .bool n3) (b := .int .u64 a3) (c := .int .u64 b3) (d := .int .i64 s) V (by simp)
          obtain ⟨g4, p40, p41, p42, p43⟩ := HB.dec (t := 25) (g := w3.heap.size + 1) (a := .bool n3) (b := .int .u64 a3) (c := .int .u64 b3) (d := .int .i64 s) V (by simp)
          replace V := V.push #[.bool n5, .int .u64 a5, .int .u64 b5, .int .i64 s] 25
          go_wp2_with fail
          refine (refOf_c 1 t _ (by decide) (by decide) lt0 t9).mono ?_
          rintro e w7 ⟨_, ⟨n6, a6, b6, D6, rfl⟩, rfl, hb⟩
          replace V := V.below hb
          clear hb
          clear g1 p10 p11 p12 p13 g2 p20 p21 p22 p23 g3 p30 p31 p32 p33 g4 p40 p41 p42 p43
          obtain ⟨g1, p10, p11, p12, p13⟩ := HB.dec (t := 25) (g := w1.heap.size) (a := .bool n1) (b := .int .u64 a1) (c := .int .u64 b1) (d := .int .i64 s) V (by simp)
          obtain ⟨g2, p20, p21, p22, p23⟩ := HB.dec (t := 25) (g := w2.heap.size) (a := .bool n2) (b := .int .u64 a2) (c := .int .u64 b2) (d := .int .i64 t) V (by simp)
          obtain ⟨g3, p30, p31, p32, p33⟩ := HB.dec (t := 25) (g := w3.heap.size) (a := .bool n3) (b := .int .u64 a3) (c := .int .u64 b3) (d := .int .i64 s) V (by simp)
          obtain ⟨g4, p40, p41, p42, p43⟩ := HB.dec (t := 25) (g := w3.heap.size + 1) (a := .bool n3) (b := .int .u64 a3) (c := .int .u64 b3) (d := .int .i64 s) V (by simp)
          obtain ⟨g5, p50, p51, p52, p53⟩ := HB.dec (t := 25) (g := w6.heap.size) (a := .bool n5) (b := .int .u64 a5) (c := .int .u64 b5) (d := .int .i64 s) V (by simp)
          replace V := V.push #[.bool n6, .int .u64 a6, .int .u64 b6, .int .i64 t] 25
          go_wp2_with fail
          refine (qk_c _).mono ?_
          rintro e w8 ⟨_, rfl, rfl, hb⟩
          replace V := V.below hb
          clear hb
          clear g1 p10 p11 p12 p13 g2 p20 p21 p22 p23 g3 p30 p31 p32 p33 g4 p40 p41 p42 p43 g5 p50 p51 p52 p53
          obtain ⟨g1, p10, p11, p12, p13⟩ := HB.dec (t := 25) (g := w1.heap.size) (a := .bool n1) (b := .int .u64 a1) (c := .int .u64 b1) (d := .int .i64 s) V (by simp)
          obtain ⟨g2, p20, p21, p22, p23⟩ := HB.dec (t := 25) (g := w2.heap.size) (a := .bool n2) (b := .int .u64 a2) (c := .int .u64 b2) (d := .int .i64 t) V (by simp)
          obtain ⟨g3, p30, p31, p32, p33⟩ := HB.dec (t := 25) (g := w3.heap.size) (a := .bool n3) (b := .int .u64 a3) (c := .int .u64 b3) (d := .int .i64 s) V (by simp)
          obtain ⟨g4, p40, p41, p42, p43⟩ := HB.dec (t := 25) (g := w3.heap.size + 1) (a := .bool n3) (b := .int .u64 a3) (c := .int .u64 b3) (d := .int .i64 s) V (by simp)
          obtain ⟨g5, p50, p51, p52, p53⟩ := HB.dec (t := 25) (g := w6.heap.size) (a := .bool n5) (b := .int .u64 a5) (c := .int .u64 b5) (d := .int .i64 s) V (by simp)
          obtain ⟨g6, p60, p61, p62, p63⟩ := HB.dec (t := 25) (g := w7.heap.size) (a := .bool n6) (b := .int .u64 a6) (c := .int .u64 b6) (d := .int .i64 t) V (by simp)
          go_wp2_with fail
          refine (cmp_v n3 a3 b3 s ((δ.natAbs : Nat) : Int) n6 a6 b6 t 1 s (-1) _ D3e D6 HE.out H1.out ls lt0 s9 t9 (Or.inr ⟨ts, rfl⟩) HC1.out).mono ?_
          rintro e w9 ⟨_, rfl, rfl, hb⟩
          replace V := V.below hb
          clear hb
          clear g1 p10 p11 p12 p13 g2 p20 p21 p22 p23 g3 p30 p31 p32 p33 g4 p40 p41 p42 p43 g5 p50 p51 p52 p53 g6 p60 p61 p62 p63
          obtain ⟨g1, p10, p11, p12, p13⟩ := HB.dec (t := 25) (g := w1.heap.size) (a := .bool n1) (b := .int .u64 a1) (c := .int .u64 b1) (d := .int .i64 s) V (by simp)
          obtain ⟨g2, p20, p21, p22, p23⟩ := HB.dec (t := 25) (g := w2.heap.size) (a := .bool n2) (b := .int .u64 a2) (c := .int .u64 b2) (d := .int .i64 t) V (by simp)
          obtain ⟨g3, p30, p31, p32, p33⟩ := HB.dec (t := 25) (g := w3.heap.size) (a := .bool n3) (b := .int .u64 a3) (c := .int .u64 b3) (d := .int .i64 s) V (by simp)
          obtain ⟨g4, p40, p41, p42, p43⟩ := HB.dec (t := 25) (g := w3.heap.size + 1) (a := .bool n3) (b := .int .u64 a3) (c := .int .u64 b3) (d := .int .i64 s) V (by simp)
          obtain ⟨g5, p50, p51, p52, p53⟩ := HB.dec (t := 25) (g := w6.heap.size) (a := .bool n5) (b := .int .u64 a5) (c := .int .u64 b5) (d := .int .i64 s) V (by simp)
          obtain ⟨g6, p60, p61, p62, p63⟩ := HB.dec (t := 25) (g := w7.heap.size) (a := .bool n6) (b := .int .u64 a6) (c := .int .u64 b6) (d := .int .i64 t) V (by simp)
          obtain ⟨σ, hσ⟩ : ∃ σ, x.sign = σ := ⟨_, rfl⟩
          have hne : ((1 : Int) == σ) = true := by
            have h := HFm.out (by have := Hd.out; omega)
            rw [HS.out, hσ] at h
            simpa using h
          have HSx := Lib.hid hσ
          clear hσ
          go_upto_region 19 with fail
          refine wp_region_det (S := fun w' => HB w [(w7.heap.size, 25, #[.bool n6, .int .u64 a6, .int .u64 b6, .int .i64 t]), (w6.heap.size, 25, #[.bool n5, .int .u64 a5, .int .u64 b5, .int .i64 s]), (w3.heap.size + 1, 25, #[.bool n3, .int .u64 a3, .int .u64 b3, .int .i64 s]), (w3.heap.size, 25, #[.bool n3, .int .u64 a3, .int .u64 b3, .int .i64 s]), (w2.heap.size, 25, #[.bool n2, .int .u64 a2, .int .u64 b2, .int .i64 t]), (w1.heap.size, 25, #[.bool n1, .int .u64 a1, .int .u64 b1, .int .i64 s])] w') (by kernel_rfl) (HB.drew V) ?_
          refine det_take (v := ?_) (i := 0) (fuel := 9) (by simp; rfl) (by kernel_rfl) (by kernel_rfl) (by kernel_rfl) (Or.inl ⟨by rfl, fun w' hS => Or.inl ⟨w', ?_, hS⟩⟩) ?_
          rotate_left
          · obtain ⟨-, c0, c1, c2, c3⟩ := HB.dec (t := 25) (g := w3.heap.size + 1) (a := .bool n3) (b := .int .u64 a3) (c := .int .u64 b3) (d := .int .i64 s) hS (by simp)
            go_simp
            all_goals with_reducible rfl
          simp only [Act.put, List.setIfInBounds_toArray, List.set_cons_zero, List.set_cons_succ]
          refine det_take (v := ?_) (i := 1) (fuel := 8) (by simp; rfl) (by kernel_rfl) (by kernel_rfl) (by kernel_rfl) (Or.inl ⟨by rfl, fun w' hS => Or.inr ⟨20, #[.agg #[.bool n3, .int .u64 a3, .int .u64 b3, .int .i64 s]], w', ?_, ?_⟩⟩) ?_
          rotate_left
          · go_simp
            all_goals with_reducible rfl
          · exact (sign_v n3 a3 b3 s δ (1) _ D3 (sm_30 Hδ.out) ls s9 HS.out).mono fun e w2 ⟨_, hv, he, hb⟩ => ⟨by rw [he, hv], HB.below hS hb⟩
          simp only [Act.put, List.setIfInBounds_toArray, List.set_cons_zero, List.set_cons_succ]
          refine det_take (v := ?_) (i := 2) (fuel := 7) (by simp; rfl) (by kernel_rfl) (by kernel_rfl) (by kernel_rfl) (Or.inl ⟨by rfl, fun w' hS => Or.inl ⟨w', ?_, hS⟩⟩) ?_
          rotate_left
          · go_simp
            all_goals with_reducible rfl
          simp only [Act.put, List.setIfInBounds_toArray, List.set_cons_zero, List.set_cons_succ]
          refine det_take (v := ?_) (i := 3) (fuel := 6) (by simp; rfl) (by kernel_rfl) (by kernel_rfl) (by kernel_rfl) (Or.inl ⟨by rfl, fun w' hS => Or.inl ⟨w', ?_, hS⟩⟩) ?_
          rotate_left
          · go_simp
            all_goals with_reducible rfl
          simp only [Act.put, List.setIfInBounds_toArray, List.set_cons_zero, List.set_cons_succ]
          refine det_take (v := ?_) (i := 4) (fuel := 5) (by simp; rfl) (by kernel_rfl) (by kernel_rfl) (by kernel_rfl) (Or.inl ⟨by rfl, fun w' hS => Or.inl ⟨w', ?_, hS⟩⟩) ?_
          rotate_left
          · obtain ⟨-, c0, c1, c2, c3⟩ := HB.dec (t := 25) (g := w3.heap.size + 1) (a := .bool n3) (b := .int .u64 a3) (c := .int .u64 b3) (d := .int .i64 s) hS (by simp)
            go_simp
            all_goals with_reducible rfl
          simp only [Act.put, List.setIfInBounds_toArray, List.set_cons_zero, List.set_cons_succ]
          refine det_take (v := ?_) (i := 5) (fuel := 4) (by simp; rfl) (by kernel_rfl) (by kernel_rfl) (by kernel_rfl) (Or.inl ⟨by rfl, fun w' hS => Or.inr ⟨20, #[.agg #[.bool n3, .int .u64 a3, .int .u64 b3, .int .i64 s]], w', ?_, ?_⟩⟩) ?_
          rotate_left
          · go_simp
            all_goals with_reducible rfl
          · exact (sign_v n3 a3 b3 s δ (1) _ D3 (sm_30 Hδ.out) ls s9 HS.out).mono fun e w2 ⟨_, hv, he, hb⟩ => ⟨by rw [he, hv], HB.below hS hb⟩
          simp only [Act.put, List.setIfInBounds_toArray, List.set_cons_zero, List.set_cons_succ]
          refine det_take (v := ?_) (i := 6) (fuel := 3) (by simp; rfl) (by kernel_rfl) (by kernel_rfl) (by kernel_rfl) (Or.inl ⟨by rfl, fun w' hS => Or.inl ⟨w', ?_, hS⟩⟩) ?_
          rotate_left
          · obtain ⟨-, c0, c1, c2, c3⟩ := HB.dec (t := 25) (g := w1.heap.size) (a := .bool n1) (b := .int .u64 a1) (c := .int .u64 b1) (d := .int .i64 s) hS (by simp)
            go_simp
            all_goals with_reducible rfl
          simp only [Act.put, List.setIfInBounds_toArray, List.set_cons_zero, List.set_cons_succ]
          refine det_take (v := ?_) (i := 7) (fuel := 2) (by simp; rfl) (by kernel_rfl) (by kernel_rfl) (by kernel_rfl) (Or.inl ⟨by rfl, fun w' hS => Or.inr ⟨20, #[.agg #[.bool n1, .int .u64 a1, .int .u64 b1, .int .i64 s]], w', ?_, ?_⟩⟩) ?_
          rotate_left
          · go_simp
            all_goals with_reducible rfl
          · exact (sign_v n1 a1 b1 s x σ _ D1 (sm_30 Hx.out) ls s9 HSx.out).mono fun e w2 ⟨_, hv, he, hb⟩ => ⟨by rw [he, hv], HB.below hS hb⟩
          simp only [Act.put, List.setIfInBounds_toArray, List.set_cons_zero, List.set_cons_succ]
          refine det_take (v := ?_) (i := 8) (fuel := 1) (by simp; rfl) (by kernel_rfl) (by kernel_rfl) (by kernel_rfl) (Or.inl ⟨by rfl, fun w' hS => Or.inl ⟨w', ?_, hS⟩⟩) ?_
          rotate_left
          · go_simp
            all_goals with_reducible rfl
          simp only [Act.put, List.setIfInBounds_toArray, List.set_cons_zero, List.set_cons_succ]
          refine det_take (v := ?_) (i := 9) (fuel := 0) (by simp; rfl) (by kernel_rfl) (by kernel_rfl) (by kernel_rfl) (Or.inl ⟨by rfl, fun w' hS => Or.inl ⟨w', ?_, hS⟩⟩) ?_
          rotate_left
          · go_simp
            all_goals with_reducible rfl
          simp only [Act.put, List.setIfInBounds_toArray, List.set_cons_zero, List.set_cons_succ]
          refine det_done (by kernel_rfl) (fun w' hS => ?_) _
          clear g1 p10 p11 p12 p13 g2 p20 p21 p22 p23 g3 p30 p31 p32 p33 g4 p40 p41 p42 p43 g5 p50 p51 p52 p53 g6 p60 p61 p62 p63
          clear V
          have V := hS
          clear hS
          obtain ⟨g1, p10, p11, p12, p13⟩ := HB.dec (t := 25) (g := w1.heap.size) (a := .bool n1) (b := .int .u64 a1) (c := .int .u64 b1) (d := .int .i64 s) V (by simp)
          obtain ⟨g2, p20, p21, p22, p23⟩ := HB.dec (t := 25) (g := w2.heap.size) (a := .bool n2) (b := .int .u64 a2) (c := .int .u64 b2) (d := .int .i64 t) V (by simp)
          obtain ⟨g3, p30, p31, p32, p33⟩ := HB.dec (t := 25) (g := w3.heap.size) (a := .bool n3) (b := .int .u64 a3) (c := .int .u64 b3) (d := .int .i64 s) V (by simp)
          obtain ⟨g4, p40, p41, p42, p43⟩ := HB.dec (t := 25) (g := w3.heap.size + 1) (a := .bool n3) (b := .int .u64 a3) (c := .int .u64 b3) (d := .int .i64 s) V (by simp)
          obtain ⟨g5, p50, p51, p52, p53⟩ := HB.dec (t := 25) (g := w6.heap.size) (a := .bool n5) (b := .int .u64 a5) (c := .int .u64 b5) (d := .int .i64 s) V (by simp)
          obtain ⟨g6, p60, p61, p62, p63⟩ := HB.dec (t := 25) (g := w7.heap.size) (a := .bool n6) (b := .int .u64 a6) (c := .int .u64 b6) (d := .int .i64 t) V (by simp)
          go_wp2_with fail
          refine (quant_v n2 a2 b2 t y t 1 n2 a2 b2 y _ D2 D2 (sm_30 Hy.out) lt0 t9 lt0 t9 (by decide) N (by rw [quantN_up n2 (Int.le_refl t), Int.sub_self]; simpa using HYN.out) (by have := HNb.out; omega) (by rw [← HYN.out]; exact zOf_self D2)).mono ?_
          rintro e wc ⟨_, rfl, rfl, hb⟩
          replace V := V.below hb
          clear hb
          clear g1 p10 p11 p12 p13 g2 p20 p21 p22 p23 g3 p30 p31 p32 p33 g4 p40 p41 p42 p43 g5 p50 p51 p52 p53 g6 p60 p61 p62 p63
          obtain ⟨g1, p10, p11, p12, p13⟩ := HB.dec (t := 25) (g := w1.heap.size) (a := .bool n1) (b := .int .u64 a1) (c := .int .u64 b1) (d := .int .i64 s) V (by simp)
          obtain ⟨g2, p20, p21, p22, p23⟩ := HB.dec (t := 25) (g := w2.heap.size) (a := .bool n2) (b := .int .u64 a2) (c := .int .u64 b2) (d := .int .i64 t) V (by simp)
          obtain ⟨g3, p30, p31, p32, p33⟩ := HB.dec (t := 25) (g := w3.heap.size) (a := .bool n3) (b := .int .u64 a3) (c := .int .u64 b3) (d := .int .i64 s) V (by simp)
          obtain ⟨g4, p40, p41, p42, p43⟩ := HB.dec (t := 25) (g := w3.heap.size + 1) (a := .bool n3) (b := .int .u64 a3) (c := .int .u64 b3) (d := .int .i64 s) V (by simp)
          obtain ⟨g5, p50, p51, p52, p53⟩ := HB.dec (t := 25) (g := w6.heap.size) (a := .bool n5) (b := .int .u64 a5) (c := .int .u64 b5) (d := .int .i64 s) V (by simp)
          obtain ⟨g6, p60, p61, p62, p63⟩ := HB.dec (t := 25) (g := w7.heap.size) (a := .bool n6) (b := .int .u64 a6) (c := .int .u64 b6) (d := .int .i64 t) V (by simp)
          replace V := V.push #[.bool n2, .int .u64 a2, .int .u64 b2, .int .i64 t] 25
          go_wp2_with fail
          refine (quant_q n2 a2 b2 t y s 1 _ D2 (sm_30 Hy.out) lt0 t9 ls s9 (by decide) (y.natAbs * Q) (by rw [quantN_up n2 ts, HQ.out]) (by have h := HYQ.out; unfold Sm at h; rw [Int.natAbs_mul, Int.natAbs_natCast] at h; omega)).mono ?_
          rintro e wd ⟨_, ⟨n8, a8, b8, D8, rfl⟩, rfl, hb⟩
          rw [← zOf_mul, zOf_self D2] at D8
          replace V := V.below hb
          clear hb
          clear g1 p10 p11 p12 p13 g2 p20 p21 p22 p23 g3 p30 p31 p32 p33 g4 p40 p41 p42 p43 g5 p50 p51 p52 p53 g6 p60 p61 p62 p63
          obtain ⟨g1, p10, p11, p12, p13⟩ := HB.dec (t := 25) (g := w1.heap.size) (a := .bool n1) (b := .int .u64 a1) (c := .int .u64 b1) (d := .int .i64 s) V (by simp)
          obtain ⟨g2, p20, p21, p22, p23⟩ := HB.dec (t := 25) (g := w2.heap.size) (a := .bool n2) (b := .int .u64 a2) (c := .int .u64 b2) (d := .int .i64 t) V (by simp)
          obtain ⟨g3, p30, p31, p32, p33⟩ := HB.dec (t := 25) (g := w3.heap.size) (a := .bool n3) (b := .int .u64 a3) (c := .int .u64 b3) (d := .int .i64 s) V (by simp)
          obtain ⟨g4, p40, p41, p42, p43⟩ := HB.dec (t := 25) (g := w3.heap.size + 1) (a := .bool n3) (b := .int .u64 a3) (c := .int .u64 b3) (d := .int .i64 s) V (by simp)
          obtain ⟨g5, p50, p51, p52, p53⟩ := HB.dec (t := 25) (g := w6.heap.size) (a := .bool n5) (b := .int .u64 a5) (c := .int .u64 b5) (d := .int .i64 s) V (by simp)
          obtain ⟨g6, p60, p61, p62, p63⟩ := HB.dec (t := 25) (g := w7.heap.size) (a := .bool n6) (b := .int .u64 a6) (c := .int .u64 b6) (d := .int .i64 t) V (by simp)
          obtain ⟨g7, p70, p71, p72, p73⟩ := HB.dec (t := 25) (g := wc.heap.size) (a := .bool n2) (b := .int .u64 a2) (c := .int .u64 b2) (d := .int .i64 t) V (by simp)
          replace V := V.push #[.bool n8, .int .u64 a8, .int .u64 b8, .int .i64 s] 25
          have q2 := eqW2_yes (a := a2) (b := b2) (c := a2) (d := b2) ⟨rfl, rfl⟩
          go_wp2_with fail
          refine (cmp_v n8 a8 b8 s (y * (Q : Int)) n2 a2 b2 t y s 0 _ D8 D2 HYQ.out Hy.out ls lt0 s9 t9 (Or.inr ⟨ts, rfl⟩) HCD.out).mono ?_
          rintro e we ⟨_, rfl, rfl, hb⟩
          replace V := V.below hb
          clear hb
          clear g1 p10 p11 p12 p13 g2 p20 p21 p22 p23 g3 p30 p31 p32 p33 g4 p40 p41 p42 p43 g5 p50 p51 p52 p53 g6 p60 p61 p62 p63 g7 p70 p71 p72 p73
          have HB1 := Lib.hid V.1
          clear V
          go_wp2
          go_ret
          exact ⟨rfl, HB1.out⟩
  · as_aux_lemma =>
      have HFm := Lib.hid (HF.out.2.2.2.2 rfl)
      clear HF HC20
      go_wp2_with fail
      refine (quant_q n1 a1 b1 s x t 2 _ D1 (sm_30 Hx.out) ls s9 lt0 t9 (by decide) N HN.out (by have := HNb.out; omega)).mono ?_
      rintro e w2 ⟨_, ⟨n2, a2, b2, D2, rfl⟩, rfl, hb⟩
      rw [HY.out] at D2
      replace V := V.below hb
      clear hb
      obtain ⟨g1, p10, p11, p12, p13⟩ := HB.dec (t := 25) (g := w1.heap.size) (a := .bool n1) (b := .int .u64 a1) (c := .int .u64 b1) (d := .int .i64 s) V (by simp)
      replace V := V.push #[.bool n2, .int .u64 a2, .int .u64 b2, .int .i64 t] 25
      go_wp2_with fail
      refine (sub_d n2 a2 b2 t y n1 a1 b1 s x s _ D1 D2 Hy.out Hx.out lt0 ls t9 s9 (by omega)).mono ?_
      rintro e w3 ⟨_, ⟨n3, a3, b3, D3, rfl⟩, rfl, hb⟩
      rw [zAt_self, HZY.out, HD.out] at D3
      replace V := V.below hb
      clear hb
      clear g1 p10 p11 p12 p13
      obtain ⟨g1, p10, p11, p12, p13⟩ := HB.dec (t := 25) (g := w1.heap.size) (a := .bool n1) (b := .int .u64 a1) (c := .int .u64 b1) (d := .int .i64 s) V (by simp)
      obtain ⟨g2, p20, p21, p22, p23⟩ := HB.dec (t := 25) (g := w2.heap.size) (a := .bool n2) (b := .int .u64 a2) (c := .int .u64 b2) (d := .int .i64 t) V (by simp)
      have V2 : HB w [(w3.heap.size + 1, 25, #[.bool n3, .int .u64 a3, .int .u64 b3, .int .i64 s]), (w3.heap.size, 25, #[.bool n3, .int .u64 a3, .int .u64 b3, .int .i64 s]), (w2.heap.size, 25, #[.bool n2, .int .u64 a2, .int .u64 b2, .int .i64 t]), (w1.heap.size, 25, #[.bool n1, .int .u64 a1, .int .u64 b1, .int .i64 s])] ((w3.alloc (.cells #[.bool n3, .int .u64 a3, .int .u64 b3, .int .i64 s] 25)).alloc (.cells #[.bool n3, .int .u64 a3, .int .u64 b3, .int .i64 s] 25)) := by
        have h := (V.push #[.bool n3, .int .u64 a3, .int .u64 b3, .int .i64 s] 25).push #[.bool n3, .int .u64 a3, .int .u64 b3, .int .i64 s] 25
        simpa using h
      have HG := Lib.hid V.1.size
      have HNE := Lib.hid (show ∀ b0 ∈ ([(w3.heap.size + 1, 25, #[.bool n3, .int .u64 a3, .int .u64 b3, .int .i64 s]), (w2.heap.size, 25, #[.bool n2, .int .u64 a2, .int .u64 b2, .int .i64 t]), (w1.heap.size, 25, #[.bool n1, .int .u64 a1, .int .u64 b1, .int .i64 s])] : List (Nat × TypeId × Array Value)), b0.1 ≠ w3.heap.size from fun b0 hb => by
        simp at hb
        rcases hb with rfl | rfl | rfl <;> (dsimp only; omega))
      clear V
      have V := V2
      clear V2
      rcases (show δ < 0 ∨ δ = 0 ∨ 0 < δ by omega) with hd | hd | hd
      · as_aux_lemma =>
          have hsg : δ.sign = -1 := Int.sign_eq_neg_one_of_neg hd
          have HS := Lib.hid hsg
          go_wp2_with fail
          refine (sign_v n3 a3 b3 s δ (-1) _ D3 (sm_30 Hδ.out) ls s9 HS.out).mono ?_
          rintro e w4 ⟨_, rfl, rfl, hb⟩
          replace V := V.below hb
          clear hb
          clear g1 p10 p11 p12 p13 g2 p20 p21 p22 p23
          have Hd := Lib.hid hd
          clear hsg hd
          obtain ⟨g1, p10, p11, p12, p13⟩ := HB.dec (t := 25) (g := w1.heap.size) (a := .bool n1) (b := .int .u64 a1) (c := .int .u64 b1) (d := .int .i64 s) V (by simp)
          obtain ⟨g2, p20, p21, p22, p23⟩ := HB.dec (t := 25) (g := w2.heap.size) (a := .bool n2) (b := .int .u64 a2) (c := .int .u64 b2) (d := .int .i64 t) V (by simp)
          obtain ⟨g3, p30, p31, p32, p33⟩ := HB.dec (t := 25) (g := w3.heap.size) (a := .bool n3) (b := .int .u64 a3) (c := .int .u64 b3) (d := .int .i64 s) V (by simp)
          obtain ⟨g4, p40, p41, p42, p43⟩ := HB.dec (t := 25) (g := w3.heap.size + 1) (a := .bool n3) (b := .int .u64 a3) (c := .int .u64 b3) (d := .int .i64 s) V (by simp)
          go_wp2_with fail
          refine (neg_d n3 a3 b3 s δ _ D3 (sm_30 Hδ.out) ls s9).mono ?_
          rintro e w5 ⟨_, ⟨n9, a9, b9, D9, rfl⟩, rfl, hb⟩
          have e9 : ((δ.natAbs : Nat) : Int) = -δ := by have := Hd.out; omega
          have D9e : DecIs n9 a9 b9 ((δ.natAbs : Nat) : Int) := by rw [e9]; exact D9
          clear e9
          replace V := V.below hb
          clear hb D9
          clear g1 p10 p11 p12 p13 g2 p20 p21 p22 p23 g3 p30 p31 p32 p33 g4 p40 p41 p42 p43
          have Bo := HB.blk (g := w3.heap.size) (t := 25) (cs := #[.bool n3, .int .u64 a3, .int .u64 b3, .int .i64 s]) V (by simp)
          have hgo : w.heap.size ≤ w3.heap.size := by exact HG.out
          have V2 := HB.set4 (g := w3.heap.size) (t := 25) (bs := [(w3.heap.size + 1, 25, #[.bool n3, .int .u64 a3, .int .u64 b3, .int .i64 s]), (w2.heap.size, 25, #[.bool n2, .int .u64 a2, .int .u64 b2, .int .i64 t]), (w1.heap.size, 25, #[.bool n1, .int .u64 a1, .int .u64 b1, .int .i64 s])]) (a' := .bool n9) (b' := .int .u64 a9) (c' := .int .u64 b9) (d' := .int .i64 s) (HB.sub V (by simp)) Bo hgo HNE.out
          obtain ⟨g1, p10, p11, p12, p13⟩ := HB.dec (t := 25) (g := w1.heap.size) (a := .bool n1) (b := .int .u64 a1) (c := .int .u64 b1) (d := .int .i64 s) V (by simp)
          obtain ⟨g2, p20, p21, p22, p23⟩ := HB.dec (t := 25) (g := w2.heap.size) (a := .bool n2) (b := .int .u64 a2) (c := .int .u64 b2) (d := .int .i64 t) V (by simp)
          obtain ⟨g3, p30, p31, p32, p33⟩ := HB.dec (t := 25) (g := w3.heap.size) (a := .bool n3) (b := .int .u64 a3) (c := .int .u64 b3) (d := .int .i64 s) V (by simp)
          obtain ⟨g4, p40, p41, p42, p43⟩ := HB.dec (t := 25) (g := w3.heap.size + 1) (a := .bool n3) (b := .int .u64 a3) (c := .int .u64 b3) (d := .int .i64 s) V (by simp)
          have fz0 := Bo.frozen 0
          have fz1 := Bo.frozen 1
          have fz2 := Bo.frozen 2
          have fz3 := Bo.frozen 3
          clear V Bo
          have V := V2
          clear V2
          go_wp2_with fail
          refine (add_d n9 a9 b9 s ((δ.natAbs : Nat) : Int) n9 a9 b9 s ((δ.natAbs : Nat) : Int) s _ D9e D9e HE.out HE.out ls ls s9 s9 (Or.inr ⟨Int.le_refl _, rfl⟩)).mono ?_
          rintro e w6 ⟨_, ⟨n5, a5, b5, D5, rfl⟩, rfl, hb⟩
          rw [zAt_self] at D5
          replace V := V.below hb
          clear hb
          clear g1 p10 p11 p12 p13 g2 p20 p21 p22 p23 g3 p30 p31 p32 p33 g4 p40 p41 p42 p43
          clear fz0 fz1 fz2 fz3
          obtain ⟨g1, p10, p11, p12, p13⟩ := HB.dec (t := 25) (g := w1.heap.size) (a := .bool n1) (b := .int .u64 a1) (c := .int .u64 b1) (d := .int .i64 s) V (by simp)
          obtain ⟨g2, p20, p21, p22, p23⟩ := HB.dec (t := 25) (g := w2.heap.size) (a := .bool n2) (b := .int .u64 a2) (c := .int .u64 b2) (d := .int .i64 t) V (by simp)
          obtain ⟨g4, p40, p41, p42, p43⟩ := HB.dec (t := 25) (g := w3.heap.size + 1) (a := .bool n3) (b := .int .u64 a3) (c := .int .u64 b3) (d := .int .i64 s) V (by simp)
          obtain ⟨g3, p30, p31, p32, p33⟩ := HB.dec (t := 25) (g := w3.heap.size) (a := .bool n9) (b := .int .u64 a9) (c := .int .u64 b9) (d := .int .i64 s) V (by simp)
          replace V := V.push #[.bool n5, .int .u64 a5, .int .u64 b5, .int .i64 s] 25
          go_wp2_with fail
          refine (refOf_c 1 t _ (by decide) (by decide) lt0 t9).mono ?_
          rintro e w7 ⟨_, ⟨n6, a6, b6, D6, rfl⟩, rfl, hb⟩
          replace V := V.below hb
          clear hb
          clear g1 p10 p11 p12 p13 g2 p20 p21 p22 p23 g4 p40 p41 p42 p43 g3 p30 p31 p32 p33
          obtain ⟨g1, p10, p11, p12, p13⟩ := HB.dec (t := 25) (g := w1.heap.size) (a := .bool n1) (b := .int .u64 a1) (c := .int .u64 b1) (d := .int .i64 s) V (by simp)
          obtain ⟨g2, p20, p21, p22, p23⟩ := HB.dec (t := 25) (g := w2.heap.size) (a := .bool n2) (b := .int .u64 a2) (c := .int .u64 b2) (d := .int .i64 t) V (by simp)
          obtain ⟨g4, p40, p41, p42, p43⟩ := HB.dec (t := 25) (g := w3.heap.size + 1) (a := .bool n3) (b := .int .u64 a3) (c := .int .u64 b3) (d := .int .i64 s) V (by simp)
          obtain ⟨g3, p30, p31, p32, p33⟩ := HB.dec (t := 25) (g := w3.heap.size) (a := .bool n9) (b := .int .u64 a9) (c := .int .u64 b9) (d := .int .i64 s) V (by simp)
          obtain ⟨g5, p50, p51, p52, p53⟩ := HB.dec (t := 25) (g := w6.heap.size) (a := .bool n5) (b := .int .u64 a5) (c := .int .u64 b5) (d := .int .i64 s) V (by simp)
          replace V := V.push #[.bool n6, .int .u64 a6, .int .u64 b6, .int .i64 t] 25
          go_wp2_with fail
          refine (qk_c _).mono ?_
          rintro e w8 ⟨_, rfl, rfl, hb⟩
          replace V := V.below hb
          clear hb
          clear g1 p10 p11 p12 p13 g2 p20 p21 p22 p23 g4 p40 p41 p42 p43 g3 p30 p31 p32 p33 g5 p50 p51 p52 p53
          obtain ⟨g1, p10, p11, p12, p13⟩ := HB.dec (t := 25) (g := w1.heap.size) (a := .bool n1) (b := .int .u64 a1) (c := .int .u64 b1) (d := .int .i64 s) V (by simp)
          obtain ⟨g2, p20, p21, p22, p23⟩ := HB.dec (t := 25) (g := w2.heap.size) (a := .bool n2) (b := .int .u64 a2) (c := .int .u64 b2) (d := .int .i64 t) V (by simp)
          obtain ⟨g4, p40, p41, p42, p43⟩ := HB.dec (t := 25) (g := w3.heap.size + 1) (a := .bool n3) (b := .int .u64 a3) (c := .int .u64 b3) (d := .int .i64 s) V (by simp)
          obtain ⟨g3, p30, p31, p32, p33⟩ := HB.dec (t := 25) (g := w3.heap.size) (a := .bool n9) (b := .int .u64 a9) (c := .int .u64 b9) (d := .int .i64 s) V (by simp)
          obtain ⟨g5, p50, p51, p52, p53⟩ := HB.dec (t := 25) (g := w6.heap.size) (a := .bool n5) (b := .int .u64 a5) (c := .int .u64 b5) (d := .int .i64 s) V (by simp)
          obtain ⟨g6, p60, p61, p62, p63⟩ := HB.dec (t := 25) (g := w7.heap.size) (a := .bool n6) (b := .int .u64 a6) (c := .int .u64 b6) (d := .int .i64 t) V (by simp)
          go_wp2_with fail
          refine (cmp_v n9 a9 b9 s ((δ.natAbs : Nat) : Int) n6 a6 b6 t 1 s (-1) _ D9e D6 HE.out H1.out ls lt0 s9 t9 (Or.inr ⟨ts, rfl⟩) HC1.out).mono ?_
          rintro e w9 ⟨_, rfl, rfl, hb⟩
          replace V := V.below hb
          clear hb
          clear g1 p10 p11 p12 p13 g2 p20 p21 p22 p23 g4 p40 p41 p42 p43 g3 p30 p31 p32 p33 g5 p50 p51 p52 p53 g6 p60 p61 p62 p63
          obtain ⟨g1, p10, p11, p12, p13⟩ := HB.dec (t := 25) (g := w1.heap.size) (a := .bool n1) (b := .int .u64 a1) (c := .int .u64 b1) (d := .int .i64 s) V (by simp)
          obtain ⟨g2, p20, p21, p22, p23⟩ := HB.dec (t := 25) (g := w2.heap.size) (a := .bool n2) (b := .int .u64 a2) (c := .int .u64 b2) (d := .int .i64 t) V (by simp)
          obtain ⟨g4, p40, p41, p42, p43⟩ := HB.dec (t := 25) (g := w3.heap.size + 1) (a := .bool n3) (b := .int .u64 a3) (c := .int .u64 b3) (d := .int .i64 s) V (by simp)
          obtain ⟨g3, p30, p31, p32, p33⟩ := HB.dec (t := 25) (g := w3.heap.size) (a := .bool n9) (b := .int .u64 a9) (c := .int .u64 b9) (d := .int .i64 s) V (by simp)
          obtain ⟨g5, p50, p51, p52, p53⟩ := HB.dec (t := 25) (g := w6.heap.size) (a := .bool n5) (b := .int .u64 a5) (c := .int .u64 b5) (d := .int .i64 s) V (by simp)
          obtain ⟨g6, p60, p61, p62, p63⟩ := HB.dec (t := 25) (g := w7.heap.size) (a := .bool n6) (b := .int .u64 a6) (c := .int .u64 b6) (d := .int .i64 t) V (by simp)
          go_wp2_with fail
          refine (sign_v n3 a3 b3 s δ (-1) _ D3 (sm_30 Hδ.out) ls s9 HS.out).mono ?_
          rintro e wb ⟨_, rfl, rfl, hb⟩
          replace V := V.below hb
          clear hb
          clear g1 p10 p11 p12 p13 g2 p20 p21 p22 p23 g4 p40 p41 p42 p43 g3 p30 p31 p32 p33 g5 p50 p51 p52 p53 g6 p60 p61 p62 p63
          obtain ⟨g1, p10, p11, p12, p13⟩ := HB.dec (t := 25) (g := w1.heap.size) (a := .bool n1) (b := .int .u64 a1) (c := .int .u64 b1) (d := .int .i64 s) V (by simp)
          obtain ⟨g2, p20, p21, p22, p23⟩ := HB.dec (t := 25) (g := w2.heap.size) (a := .bool n2) (b := .int .u64 a2) (c := .int .u64 b2) (d := .int .i64 t) V (by simp)
          obtain ⟨g4, p40, p41, p42, p43⟩ := HB.dec (t := 25) (g := w3.heap.size + 1) (a := .bool n3) (b := .int .u64 a3) (c := .int .u64 b3) (d := .int .i64 s) V (by simp)
          obtain ⟨g3, p30, p31, p32, p33⟩ := HB.dec (t := 25) (g := w3.heap.size) (a := .bool n9) (b := .int .u64 a9) (c := .int .u64 b9) (d := .int .i64 s) V (by simp)
          obtain ⟨g5, p50, p51, p52, p53⟩ := HB.dec (t := 25) (g := w6.heap.size) (a := .bool n5) (b := .int .u64 a5) (c := .int .u64 b5) (d := .int .i64 s) V (by simp)
          obtain ⟨g6, p60, p61, p62, p63⟩ := HB.dec (t := 25) (g := w7.heap.size) (a := .bool n6) (b := .int .u64 a6) (c := .int .u64 b6) (d := .int .i64 t) V (by simp)
          go_wp2_with fail
          refine (quant_v n2 a2 b2 t y t 2 n2 a2 b2 y _ D2 D2 (sm_30 Hy.out) lt0 t9 lt0 t9 (by decide) N (by rw [quantN_up n2 (Int.le_refl t), Int.sub_self]; simpa using HYN.out) (by have := HNb.out; omega) (by rw [← HYN.out]; exact zOf_self D2)).mono ?_
          rintro e wc ⟨_, rfl, rfl, hb⟩
          replace V := V.below hb
          clear hb
          clear g1 p10 p11 p12 p13 g2 p20 p21 p22 p23 g4 p40 p41 p42 p43 g3 p30 p31 p32 p33 g5 p50 p51 p52 p53 g6 p60 p61 p62 p63
          obtain ⟨g1, p10, p11, p12, p13⟩ := HB.dec (t := 25) (g := w1.heap.size) (a := .bool n1) (b := .int .u64 a1) (c := .int .u64 b1) (d := .int .i64 s) V (by simp)
          obtain ⟨g2, p20, p21, p22, p23⟩ := HB.dec (t := 25) (g := w2.heap.size) (a := .bool n2) (b := .int .u64 a2) (c := .int .u64 b2) (d := .int .i64 t) V (by simp)
          obtain ⟨g4, p40, p41, p42, p43⟩ := HB.dec (t := 25) (g := w3.heap.size + 1) (a := .bool n3) (b := .int .u64 a3) (c := .int .u64 b3) (d := .int .i64 s) V (by simp)
          obtain ⟨g3, p30, p31, p32, p33⟩ := HB.dec (t := 25) (g := w3.heap.size) (a := .bool n9) (b := .int .u64 a9) (c := .int .u64 b9) (d := .int .i64 s) V (by simp)
          obtain ⟨g5, p50, p51, p52, p53⟩ := HB.dec (t := 25) (g := w6.heap.size) (a := .bool n5) (b := .int .u64 a5) (c := .int .u64 b5) (d := .int .i64 s) V (by simp)
          obtain ⟨g6, p60, p61, p62, p63⟩ := HB.dec (t := 25) (g := w7.heap.size) (a := .bool n6) (b := .int .u64 a6) (c := .int .u64 b6) (d := .int .i64 t) V (by simp)
          replace V := V.push #[.bool n2, .int .u64 a2, .int .u64 b2, .int .i64 t] 25
          go_wp2_with fail
          refine (quant_q n2 a2 b2 t y s 2 _ D2 (sm_30 Hy.out) lt0 t9 ls s9 (by decide) (y.natAbs * Q) (by rw [quantN_up n2 ts, HQ.out]) (by have h := HYQ.out; unfold Sm at h; rw [Int.natAbs_mul, Int.natAbs_natCast] at h; omega)).mono ?_
          rintro e wd ⟨_, ⟨n8, a8, b8, D8, rfl⟩, rfl, hb⟩
          rw [← zOf_mul, zOf_self D2] at D8
          replace V := V.below hb
          clear hb
          clear g1 p10 p11 p12 p13 g2 p20 p21 p22 p23 g4 p40 p41 p42 p43 g3 p30 p31 p32 p33 g5 p50 p51 p52 p53 g6 p60 p61 p62 p63
          obtain ⟨g1, p10, p11, p12, p13⟩ := HB.dec (t := 25) (g := w1.heap.size) (a := .bool n1) (b := .int .u64 a1) (c := .int .u64 b1) (d := .int .i64 s) V (by simp)
          obtain ⟨g2, p20, p21, p22, p23⟩ := HB.dec (t := 25) (g := w2.heap.size) (a := .bool n2) (b := .int .u64 a2) (c := .int .u64 b2) (d := .int .i64 t) V (by simp)
          obtain ⟨g4, p40, p41, p42, p43⟩ := HB.dec (t := 25) (g := w3.heap.size + 1) (a := .bool n3) (b := .int .u64 a3) (c := .int .u64 b3) (d := .int .i64 s) V (by simp)
          obtain ⟨g3, p30, p31, p32, p33⟩ := HB.dec (t := 25) (g := w3.heap.size) (a := .bool n9) (b := .int .u64 a9) (c := .int .u64 b9) (d := .int .i64 s) V (by simp)
          obtain ⟨g5, p50, p51, p52, p53⟩ := HB.dec (t := 25) (g := w6.heap.size) (a := .bool n5) (b := .int .u64 a5) (c := .int .u64 b5) (d := .int .i64 s) V (by simp)
          obtain ⟨g6, p60, p61, p62, p63⟩ := HB.dec (t := 25) (g := w7.heap.size) (a := .bool n6) (b := .int .u64 a6) (c := .int .u64 b6) (d := .int .i64 t) V (by simp)
          obtain ⟨g7, p70, p71, p72, p73⟩ := HB.dec (t := 25) (g := wc.heap.size) (a := .bool n2) (b := .int .u64 a2) (c := .int .u64 b2) (d := .int .i64 t) V (by simp)
          replace V := V.push #[.bool n8, .int .u64 a8, .int .u64 b8, .int .i64 s] 25
          have q2 := eqW2_yes (a := a2) (b := b2) (c := a2) (d := b2) ⟨rfl, rfl⟩
          go_wp2_with fail
          refine (cmp_v n8 a8 b8 s (y * (Q : Int)) n2 a2 b2 t y s 0 _ D8 D2 HYQ.out Hy.out ls lt0 s9 t9 (Or.inr ⟨ts, rfl⟩) HCD.out).mono ?_
          rintro e we ⟨_, rfl, rfl, hb⟩
          replace V := V.below hb
          clear hb
          clear g1 p10 p11 p12 p13 g2 p20 p21 p22 p23 g4 p40 p41 p42 p43 g3 p30 p31 p32 p33 g5 p50 p51 p52 p53 g6 p60 p61 p62 p63 g7 p70 p71 p72 p73
          have HB1 := Lib.hid V.1
          clear V
          go_wp2
          go_ret
          exact ⟨rfl, HB1.out⟩
      · as_aux_lemma =>
          have hsg : δ.sign = 0 := by rw [hd]; rfl
          have HS := Lib.hid hsg
          go_wp2_with fail
          refine (sign_v n3 a3 b3 s δ (0) _ D3 (sm_30 Hδ.out) ls s9 HS.out).mono ?_
          rintro e w4 ⟨_, rfl, rfl, hb⟩
          replace V := V.below hb
          clear hb
          clear g1 p10 p11 p12 p13 g2 p20 p21 p22 p23
          have Hd := Lib.hid hd
          clear hsg hd
          obtain ⟨g1, p10, p11, p12, p13⟩ := HB.dec (t := 25) (g := w1.heap.size) (a := .bool n1) (b := .int .u64 a1) (c := .int .u64 b1) (d := .int .i64 s) V (by simp)
          obtain ⟨g2, p20, p21, p22, p23⟩ := HB.dec (t := 25) (g := w2.heap.size) (a := .bool n2) (b := .int .u64 a2) (c := .int .u64 b2) (d := .int .i64 t) V (by simp)
          obtain ⟨g3, p30, p31, p32, p33⟩ := HB.dec (t := 25) (g := w3.heap.size) (a := .bool n3) (b := .int .u64 a3) (c := .int .u64 b3) (d := .int .i64 s) V (by simp)
          obtain ⟨g4, p40, p41, p42, p43⟩ := HB.dec (t := 25) (g := w3.heap.size + 1) (a := .bool n3) (b := .int .u64 a3) (c := .int .u64 b3) (d := .int .i64 s) V (by simp)
          have e9 : ((δ.natAbs : Nat) : Int) = δ := by have := Hd.out; omega
          have D3e : DecIs n3 a3 b3 ((δ.natAbs : Nat) : Int) := by rw [e9]; exact D3
          clear e9
          go_wp2_with fail
          refine (add_d n3 a3 b3 s ((δ.natAbs : Nat) : Int) n3 a3 b3 s ((δ.natAbs : Nat) : Int) s _ D3e D3e HE.out HE.out ls ls s9 s9 (Or.inr ⟨Int.le_refl _, rfl⟩)).mono ?_
          rintro e w6 ⟨_, ⟨n5, a5, b5, D5, rfl⟩, rfl, hb⟩
          rw [zAt_self] at D5
          replace V := V.below hb
          clear hb
          clear g1 p10 p11 p12 p13 g2 p20 p21 p22 p23 g3 p30 p31 p32 p33 g4 p40 p41 p42 p43
          obtain ⟨g1, p10, p11, p12, p13⟩ := HB.dec (t := 25) (g := w1.heap.size) (a := .bool n1) (b := .int .u64 a1) (c := .int .u64 b1) (d := .int .i64 s) V (by simp)
          obtain ⟨g2, p20, p21, p22, p23⟩ := HB.dec (t := 25) (g := w2.heap.size) (a := .bool n2) (b := .int .u64 a2) (c := .int .u64 b2) (d := .int .i64 t) V (by simp)
          obtain ⟨g3, p30, p31, p32, p33⟩ := HB.dec (t := 25) (g := w3.heap.size) (a := .bool n3) (b := .int .u64 a3) (c := .int .u64 b3) (d := .int .i64 s) V (by simp)
          obtain ⟨g4, p40, p41, p42, p43⟩ := HB.dec (t := 25) (g := w3.heap.size + 1) (a := .bool n3) (b := .int .u64 a3) (c := .int .u64 b3) (d := .int .i64 s) V (by simp)
          replace V := V.push #[.bool n5, .int .u64 a5, .int .u64 b5, .int .i64 s] 25
          go_wp2_with fail
          refine (refOf_c 1 t _ (by decide) (by decide) lt0 t9).mono ?_
          rintro e w7 ⟨_, ⟨n6, a6, b6, D6, rfl⟩, rfl, hb⟩
          replace V := V.below hb
          clear hb
          clear g1 p10 p11 p12 p13 g2 p20 p21 p22 p23 g3 p30 p31 p32 p33 g4 p40 p41 p42 p43
          obtain ⟨g1, p10, p11, p12, p13⟩ := HB.dec (t := 25) (g := w1.heap.size) (a := .bool n1) (b := .int .u64 a1) (c := .int .u64 b1) (d := .int .i64 s) V (by simp)
          obtain ⟨g2, p20, p21, p22, p23⟩ := HB.dec (t := 25) (g := w2.heap.size) (a := .bool n2) (b := .int .u64 a2) (c := .int .u64 b2) (d := .int .i64 t) V (by simp)
          obtain ⟨g3, p30, p31, p32, p33⟩ := HB.dec (t := 25) (g := w3.heap.size) (a := .bool n3) (b := .int .u64 a3) (c := .int .u64 b3) (d := .int .i64 s) V (by simp)
          obtain ⟨g4, p40, p41, p42, p43⟩ := HB.dec (t := 25) (g := w3.heap.size + 1) (a := .bool n3) (b := .int .u64 a3) (c := .int .u64 b3) (d := .int .i64 s) V (by simp)
          obtain ⟨g5, p50, p51, p52, p53⟩ := HB.dec (t := 25) (g := w6.heap.size) (a := .bool n5) (b := .int .u64 a5) (c := .int .u64 b5) (d := .int .i64 s) V (by simp)
          replace V := V.push #[.bool n6, .int .u64 a6, .int .u64 b6, .int .i64 t] 25
          go_wp2_with fail
          refine (qk_c _).mono ?_
          rintro e w8 ⟨_, rfl, rfl, hb⟩
          replace V := V.below hb
          clear hb
          clear g1 p10 p11 p12 p13 g2 p20 p21 p22 p23 g3 p30 p31 p32 p33 g4 p40 p41 p42 p43 g5 p50 p51 p52 p53
          obtain ⟨g1, p10, p11, p12, p13⟩ := HB.dec (t := 25) (g := w1.heap.size) (a := .bool n1) (b := .int .u64 a1) (c := .int .u64 b1) (d := .int .i64 s) V (by simp)
          obtain ⟨g2, p20, p21, p22, p23⟩ := HB.dec (t := 25) (g := w2.heap.size) (a := .bool n2) (b := .int .u64 a2) (c := .int .u64 b2) (d := .int .i64 t) V (by simp)
          obtain ⟨g3, p30, p31, p32, p33⟩ := HB.dec (t := 25) (g := w3.heap.size) (a := .bool n3) (b := .int .u64 a3) (c := .int .u64 b3) (d := .int .i64 s) V (by simp)
          obtain ⟨g4, p40, p41, p42, p43⟩ := HB.dec (t := 25) (g := w3.heap.size + 1) (a := .bool n3) (b := .int .u64 a3) (c := .int .u64 b3) (d := .int .i64 s) V (by simp)
          obtain ⟨g5, p50, p51, p52, p53⟩ := HB.dec (t := 25) (g := w6.heap.size) (a := .bool n5) (b := .int .u64 a5) (c := .int .u64 b5) (d := .int .i64 s) V (by simp)
          obtain ⟨g6, p60, p61, p62, p63⟩ := HB.dec (t := 25) (g := w7.heap.size) (a := .bool n6) (b := .int .u64 a6) (c := .int .u64 b6) (d := .int .i64 t) V (by simp)
          go_wp2_with fail
          refine (cmp_v n3 a3 b3 s ((δ.natAbs : Nat) : Int) n6 a6 b6 t 1 s (-1) _ D3e D6 HE.out H1.out ls lt0 s9 t9 (Or.inr ⟨ts, rfl⟩) HC1.out).mono ?_
          rintro e w9 ⟨_, rfl, rfl, hb⟩
          replace V := V.below hb
          clear hb
          clear g1 p10 p11 p12 p13 g2 p20 p21 p22 p23 g3 p30 p31 p32 p33 g4 p40 p41 p42 p43 g5 p50 p51 p52 p53 g6 p60 p61 p62 p63
          obtain ⟨g1, p10, p11, p12, p13⟩ := HB.dec (t := 25) (g := w1.heap.size) (a := .bool n1) (b := .int .u64 a1) (c := .int .u64 b1) (d := .int .i64 s) V (by simp)
          obtain ⟨g2, p20, p21, p22, p23⟩ := HB.dec (t := 25) (g := w2.heap.size) (a := .bool n2) (b := .int .u64 a2) (c := .int .u64 b2) (d := .int .i64 t) V (by simp)
          obtain ⟨g3, p30, p31, p32, p33⟩ := HB.dec (t := 25) (g := w3.heap.size) (a := .bool n3) (b := .int .u64 a3) (c := .int .u64 b3) (d := .int .i64 s) V (by simp)
          obtain ⟨g4, p40, p41, p42, p43⟩ := HB.dec (t := 25) (g := w3.heap.size + 1) (a := .bool n3) (b := .int .u64 a3) (c := .int .u64 b3) (d := .int .i64 s) V (by simp)
          obtain ⟨g5, p50, p51, p52, p53⟩ := HB.dec (t := 25) (g := w6.heap.size) (a := .bool n5) (b := .int .u64 a5) (c := .int .u64 b5) (d := .int .i64 s) V (by simp)
          obtain ⟨g6, p60, p61, p62, p63⟩ := HB.dec (t := 25) (g := w7.heap.size) (a := .bool n6) (b := .int .u64 a6) (c := .int .u64 b6) (d := .int .i64 t) V (by simp)
          go_wp2_with fail
          refine (sign_v n3 a3 b3 s δ (0) _ D3 (sm_30 Hδ.out) ls s9 HS.out).mono ?_
          rintro e wb ⟨_, rfl, rfl, hb⟩
          replace V := V.below hb
          clear hb
          clear g1 p10 p11 p12 p13 g2 p20 p21 p22 p23 g3 p30 p31 p32 p33 g4 p40 p41 p42 p43 g5 p50 p51 p52 p53 g6 p60 p61 p62 p63
          obtain ⟨g1, p10, p11, p12, p13⟩ := HB.dec (t := 25) (g := w1.heap.size) (a := .bool n1) (b := .int .u64 a1) (c := .int .u64 b1) (d := .int .i64 s) V (by simp)
          obtain ⟨g2, p20, p21, p22, p23⟩ := HB.dec (t := 25) (g := w2.heap.size) (a := .bool n2) (b := .int .u64 a2) (c := .int .u64 b2) (d := .int .i64 t) V (by simp)
          obtain ⟨g3, p30, p31, p32, p33⟩ := HB.dec (t := 25) (g := w3.heap.size) (a := .bool n3) (b := .int .u64 a3) (c := .int .u64 b3) (d := .int .i64 s) V (by simp)
          obtain ⟨g4, p40, p41, p42, p43⟩ := HB.dec (t := 25) (g := w3.heap.size + 1) (a := .bool n3) (b := .int .u64 a3) (c := .int .u64 b3) (d := .int .i64 s) V (by simp)
          obtain ⟨g5, p50, p51, p52, p53⟩ := HB.dec (t := 25) (g := w6.heap.size) (a := .bool n5) (b := .int .u64 a5) (c := .int .u64 b5) (d := .int .i64 s) V (by simp)
          obtain ⟨g6, p60, p61, p62, p63⟩ := HB.dec (t := 25) (g := w7.heap.size) (a := .bool n6) (b := .int .u64 a6) (c := .int .u64 b6) (d := .int .i64 t) V (by simp)
          go_wp2_with fail
          refine (quant_v n2 a2 b2 t y t 2 n2 a2 b2 y _ D2 D2 (sm_30 Hy.out) lt0 t9 lt0 t9 (by decide) N (by rw [quantN_up n2 (Int.le_refl t), Int.sub_self]; simpa using HYN.out) (by have := HNb.out; omega) (by rw [← HYN.out]; exact zOf_self D2)).mono ?_
          rintro e wc ⟨_, rfl, rfl, hb⟩
          replace V := V.below hb
          clear hb
          clear g1 p10 p11 p12 p13 g2 p20 p21 p22 p23 g3 p30 p31 p32 p33 g4 p40 p41 p42 p43 g5 p50 p51 p52 p53 g6 p60 p61 p62 p63
          obtain ⟨g1, p10, p11, p12, p13⟩ := HB.dec (t := 25) (g := w1.heap.size) (a := .bool n1) (b := .int .u64 a1) (c := .int .u64 b1) (d := .int .i64 s) V (by simp)
          obtain ⟨g2, p20, p21, p22, p23⟩ := HB.dec (t := 25) (g := w2.heap.size) (a := .bool n2) (b := .int .u64 a2) (c := .int .u64 b2) (d := .int .i64 t) V (by simp)
          obtain ⟨g3, p30, p31, p32, p33⟩ := HB.dec (t := 25) (g := w3.heap.size) (a := .bool n3) (b := .int .u64 a3) (c := .int .u64 b3) (d := .int .i64 s) V (by simp)
          obtain ⟨g4, p40, p41, p42, p43⟩ := HB.dec (t := 25) (g := w3.heap.size + 1) (a := .bool n3) (b := .int .u64 a3) (c := .int .u64 b3) (d := .int .i64 s) V (by simp)
          obtain ⟨g5, p50, p51, p52, p53⟩ := HB.dec (t := 25) (g := w6.heap.size) (a := .bool n5) (b := .int .u64 a5) (c := .int .u64 b5) (d := .int .i64 s) V (by simp)
          obtain ⟨g6, p60, p61, p62, p63⟩ := HB.dec (t := 25) (g := w7.heap.size) (a := .bool n6) (b := .int .u64 a6) (c := .int .u64 b6) (d := .int .i64 t) V (by simp)
          replace V := V.push #[.bool n2, .int .u64 a2, .int .u64 b2, .int .i64 t] 25
          go_wp2_with fail
          refine (quant_q n2 a2 b2 t y s 2 _ D2 (sm_30 Hy.out) lt0 t9 ls s9 (by decide) (y.natAbs * Q) (by rw [quantN_up n2 ts, HQ.out]) (by have h := HYQ.out; unfold Sm at h; rw [Int.natAbs_mul, Int.natAbs_natCast] at h; omega)).mono ?_
          rintro e wd ⟨_, ⟨n8, a8, b8, D8, rfl⟩, rfl, hb⟩
          rw [← zOf_mul, zOf_self D2] at D8
          replace V := V.below hb
          clear hb
          clear g1 p10 p11 p12 p13 g2 p20 p21 p22 p23 g3 p30 p31 p32 p33 g4 p40 p41 p42 p43 g5 p50 p51 p52 p53 g6 p60 p61 p62 p63
          obtain ⟨g1, p10, p11, p12, p13⟩ := HB.dec (t := 25) (g := w1.heap.size) (a := .bool n1) (b := .int .u64 a1) (c := .int .u64 b1) (d := .int .i64 s) V (by simp)
          obtain ⟨g2, p20, p21, p22, p23⟩ := HB.dec (t := 25) (g := w2.heap.size) (a := .bool n2) (b := .int .u64 a2) (c := .int .u64 b2) (d := .int .i64 t) V (by simp)
          obtain ⟨g3, p30, p31, p32, p33⟩ := HB.dec (t := 25) (g := w3.heap.size) (a := .bool n3) (b := .int .u64 a3) (c := .int .u64 b3) (d := .int .i64 s) V (by simp)
          obtain ⟨g4, p40, p41, p42, p43⟩ := HB.dec (t := 25) (g := w3.heap.size + 1) (a := .bool n3) (b := .int .u64 a3) (c := .int .u64 b3) (d := .int .i64 s) V (by simp)
          obtain ⟨g5, p50, p51, p52, p53⟩ := HB.dec (t := 25) (g := w6.heap.size) (a := .bool n5) (b := .int .u64 a5) (c := .int .u64 b5) (d := .int .i64 s) V (by simp)
          obtain ⟨g6, p60, p61, p62, p63⟩ := HB.dec (t := 25) (g := w7.heap.size) (a := .bool n6) (b := .int .u64 a6) (c := .int .u64 b6) (d := .int .i64 t) V (by simp)
          obtain ⟨g7, p70, p71, p72, p73⟩ := HB.dec (t := 25) (g := wc.heap.size) (a := .bool n2) (b := .int .u64 a2) (c := .int .u64 b2) (d := .int .i64 t) V (by simp)
          replace V := V.push #[.bool n8, .int .u64 a8, .int .u64 b8, .int .i64 s] 25
          have q2 := eqW2_yes (a := a2) (b := b2) (c := a2) (d := b2) ⟨rfl, rfl⟩
          go_wp2_with fail
          refine (cmp_v n8 a8 b8 s (y * (Q : Int)) n2 a2 b2 t y s 0 _ D8 D2 HYQ.out Hy.out ls lt0 s9 t9 (Or.inr ⟨ts, rfl⟩) HCD.out).mono ?_
          rintro e we ⟨_, rfl, rfl, hb⟩
          replace V := V.below hb
          clear hb
          clear g1 p10 p11 p12 p13 g2 p20 p21 p22 p23 g3 p30 p31 p32 p33 g4 p40 p41 p42 p43 g5 p50 p51 p52 p53 g6 p60 p61 p62 p63 g7 p70 p71 p72 p73
          have HB1 := Lib.hid V.1
          clear V
          go_wp2
          go_ret
          exact ⟨rfl, HB1.out⟩
      · as_aux_lemma =>
          have hsg : δ.sign = 1 := Int.sign_eq_one_of_pos hd
          exact absurd HFm.out (by omega)
  · as_aux_lemma =>
      have HFm := Lib.hid (HC20.out (by decide))
      clear HF HC20
      go_wp2_with fail
      refine (quant_q n1 a1 b1 s x t 3 _ D1 (sm_30 Hx.out) ls s9 lt0 t9 (by decide) N HN.out (by have := HNb.out; omega)).mono ?_
      rintro e w2 ⟨_, ⟨n2, a2, b2, D2, rfl⟩, rfl, hb⟩
      rw [HY.out] at D2
      replace V := V.below hb
      clear hb
      obtain ⟨g1, p10, p11, p12, p13⟩ := HB.dec (t := 25) (g := w1.heap.size) (a := .bool n1) (b := .int .u64 a1) (c := .int .u64 b1) (d := .int .i64 s) V (by simp)
      replace V := V.push #[.bool n2, .int .u64 a2, .int .u64 b2, .int .i64 t] 25
      go_wp2_with fail
      refine (sub_d n2 a2 b2 t y n1 a1 b1 s x s _ D1 D2 Hy.out Hx.out lt0 ls t9 s9 (by omega)).mono ?_
      rintro e w3 ⟨_, ⟨n3, a3, b3, D3, rfl⟩, rfl, hb⟩
      rw [zAt_self, HZY.out, HD.out] at D3
      replace V := V.below hb
      clear hb
      clear g1 p10 p11 p12 p13
      obtain ⟨g1, p10, p11, p12, p13⟩ := HB.dec (t := 25) (g := w1.heap.size) (a := .bool n1) (b := .int .u64 a1) (c := .int .u64 b1) (d := .int .i64 s) V (by simp)
      obtain ⟨g2, p20, p21, p22, p23⟩ := HB.dec (t := 25) (g := w2.heap.size) (a := .bool n2) (b := .int .u64 a2) (c := .int .u64 b2) (d := .int .i64 t) V (by simp)
      have V2 : HB w [(w3.heap.size + 1, 25, #[.bool n3, .int .u64 a3, .int .u64 b3, .int .i64 s]), (w3.heap.size, 25, #[.bool n3, .int .u64 a3, .int .u64 b3, .int .i64 s]), (w2.heap.size, 25, #[.bool n2, .int .u64 a2, .int .u64 b2, .int .i64 t]), (w1.heap.size, 25, #[.bool n1, .int .u64 a1, .int .u64 b1, .int .i64 s])] ((w3.alloc (.cells #[.bool n3, .int .u64 a3, .int .u64 b3, .int .i64 s] 25)).alloc (.cells #[.bool n3, .int .u64 a3, .int .u64 b3, .int .i64 s] 25)) := by
        have h := (V.push #[.bool n3, .int .u64 a3, .int .u64 b3, .int .i64 s] 25).push #[.bool n3, .int .u64 a3, .int .u64 b3, .int .i64 s] 25
        simpa using h
      have HG := Lib.hid V.1.size
      have HNE := Lib.hid (show ∀ b0 ∈ ([(w3.heap.size + 1, 25, #[.bool n3, .int .u64 a3, .int .u64 b3, .int .i64 s]), (w2.heap.size, 25, #[.bool n2, .int .u64 a2, .int .u64 b2, .int .i64 t]), (w1.heap.size, 25, #[.bool n1, .int .u64 a1, .int .u64 b1, .int .i64 s])] : List (Nat × TypeId × Array Value)), b0.1 ≠ w3.heap.size from fun b0 hb => by
        simp at hb
        rcases hb with rfl | rfl | rfl <;> (dsimp only; omega))
      clear V
      have V := V2
      clear V2
      rcases (show δ < 0 ∨ δ = 0 ∨ 0 < δ by omega) with hd | hd | hd
      · as_aux_lemma =>
          have hsg : δ.sign = -1 := Int.sign_eq_neg_one_of_neg hd
          have HS := Lib.hid hsg
          go_wp2_with fail
          refine (sign_v n3 a3 b3 s δ (-1) _ D3 (sm_30 Hδ.out) ls s9 HS.out).mono ?_
          rintro e w4 ⟨_, rfl, rfl, hb⟩
          replace V := V.below hb
          clear hb
          clear g1 p10 p11 p12 p13 g2 p20 p21 p22 p23
          have Hd := Lib.hid hd
          clear hsg hd
          obtain ⟨g1, p10, p11, p12, p13⟩ := HB.dec (t := 25) (g := w1.heap.size) (a := .bool n1) (b := .int .u64 a1) (c := .int .u64 b1) (d := .int .i64 s) V (by simp)
          obtain ⟨g2, p20, p21, p22, p23⟩ := HB.dec (t := 25) (g := w2.heap.size) (a := .bool n2) (b := .int .u64 a2) (c := .int .u64 b2) (d := .int .i64 t) V (by simp)
          obtain ⟨g3, p30, p31, p32, p33⟩ := HB.dec (t := 25) (g := w3.heap.size) (a := .bool n3) (b := .int .u64 a3) (c := .int .u64 b3) (d := .int .i64 s) V (by simp)
          obtain ⟨g4, p40, p41, p42, p43⟩ := HB.dec (t := 25) (g := w3.heap.size + 1) (a := .bool n3) (b := .int .u64 a3) (c := .int .u64 b3) (d := .int .i64 s) V (by simp)
          go_wp2_with fail
          refine (neg_d n3 a3 b3 s δ _ D3 (sm_30 Hδ.out) ls s9).mono ?_
          rintro e w5 ⟨_, ⟨n9, a9, b9, D9, rfl⟩, rfl, hb⟩
          have e9 : ((δ.natAbs : Nat) : Int) = -δ := by have := Hd.out; omega
          have D9e : DecIs n9 a9 b9 ((δ.natAbs : Nat) : Int) := by rw [e9]; exact D9
          clear e9
          replace V := V.below hb
          clear hb D9
          clear g1 p10 p11 p12 p13 g2 p20 p21 p22 p23 g3 p30 p31 p32 p33 g4 p40 p41 p42 p43
          have Bo := HB.blk (g := w3.heap.size) (t := 25) (cs := #[.bool n3, .int .u64 a3, .int .u64 b3, .int .i64 s]) V (by simp)
          have hgo : w.heap.size ≤ w3.heap.size := by exact HG.out
          have V2 := HB.set4 (g := w3.heap.size) (t := 25) (bs := [(w3.heap.size + 1, 25, #[.bool n3, .int .u64 a3, .int .u64 b3, .int .i64 s]), (w2.heap.size, 25, #[.bool n2, .int .u64 a2, .int .u64 b2, .int .i64 t]), (w1.heap.size, 25, #[.bool n1, .int .u64 a1, .int .u64 b1, .int .i64 s])]) (a' := .bool n9) (b' := .int .u64 a9) (c' := .int .u64 b9) (d' := .int .i64 s) (HB.sub V (by simp)) Bo hgo HNE.out
          obtain ⟨g1, p10, p11, p12, p13⟩ := HB.dec (t := 25) (g := w1.heap.size) (a := .bool n1) (b := .int .u64 a1) (c := .int .u64 b1) (d := .int .i64 s) V (by simp)
          obtain ⟨g2, p20, p21, p22, p23⟩ := HB.dec (t := 25) (g := w2.heap.size) (a := .bool n2) (b := .int .u64 a2) (c := .int .u64 b2) (d := .int .i64 t) V (by simp)
          obtain ⟨g3, p30, p31, p32, p33⟩ := HB.dec (t := 25) (g := w3.heap.size) (a := .bool n3) (b := .int .u64 a3) (c := .int .u64 b3) (d := .int .i64 s) V (by simp)
          obtain ⟨g4, p40, p41, p42, p43⟩ := HB.dec (t := 25) (g := w3.heap.size + 1) (a := .bool n3) (b := .int .u64 a3) (c := .int .u64 b3) (d := .int .i64 s) V (by simp)
          have fz0 := Bo.frozen 0
          have fz1 := Bo.frozen 1
          have fz2 := Bo.frozen 2
          have fz3 := Bo.frozen 3
          clear V Bo
          have V := V2
          clear V2
          go_wp2_with fail
          refine (add_d n9 a9 b9 s ((δ.natAbs : Nat) : Int) n9 a9 b9 s ((δ.natAbs : Nat) : Int) s _ D9e D9e HE.out HE.out ls ls s9 s9 (Or.inr ⟨Int.le_refl _, rfl⟩)).mono ?_
          rintro e w6 ⟨_, ⟨n5, a5, b5, D5, rfl⟩, rfl, hb⟩
          rw [zAt_self] at D5
          replace V := V.below hb
          clear hb
          clear g1 p10 p11 p12 p13 g2 p20 p21 p22 p23 g3 p30 p31 p32 p33 g4 p40 p41 p42 p43
          clear fz0 fz1 fz2 fz3
          obtain ⟨g1, p10, p11, p12, p13⟩ := HB.dec (t := 25) (g := w1.heap.size) (a := .bool n1) (b := .int .u64 a1) (c := .int .u64 b1) (d := .int .i64 s) V (by simp)
          obtain ⟨g2, p20, p21, p22, p23⟩ := HB.dec (t := 25) (g := w2.heap.size) (a := .bool n2) (b := .int .u64 a2) (c := .int .u64 b2) (d := .int .i64 t) V (by simp)
          obtain ⟨g4, p40, p41, p42, p43⟩ := HB.dec (t := 25) (g := w3.heap.size + 1) (a := .bool n3) (b := .int .u64 a3) (c := .int .u64 b3) (d := .int .i64 s) V (by simp)
          obtain ⟨g3, p30, p31, p32, p33⟩ := HB.dec (t := 25) (g := w3.heap.size) (a := .bool n9) (b := .int .u64 a9) (c := .int .u64 b9) (d := .int .i64 s) V (by simp)
          replace V := V.push #[.bool n5, .int .u64 a5, .int .u64 b5, .int .i64 s] 25
          go_wp2_with fail
          refine (refOf_c 1 t _ (by decide) (by decide) lt0 t9).mono ?_
          rintro e w7 ⟨_, ⟨n6, a6, b6, D6, rfl⟩, rfl, hb⟩
          replace V := V.below hb
          clear hb
          clear g1 p10 p11 p12 p13 g2 p20 p21 p22 p23 g4 p40 p41 p42 p43 g3 p30 p31 p32 p33
          obtain ⟨g1, p10, p11, p12, p13⟩ := HB.dec (t := 25) (g := w1.heap.size) (a := .bool n1) (b := .int .u64 a1) (c := .int .u64 b1) (d := .int .i64 s) V (by simp)
          obtain ⟨g2, p20, p21, p22, p23⟩ := HB.dec (t := 25) (g := w2.heap.size) (a := .bool n2) (b := .int .u64 a2) (c := .int .u64 b2) (d := .int .i64 t) V (by simp)
          obtain ⟨g4, p40, p41, p42, p43⟩ := HB.dec (t := 25) (g := w3.heap.size + 1) (a := .bool n3) (b := .int .u64 a3) (c := .int .u64 b3) (d := .int .i64 s) V (by simp)
          obtain ⟨g3, p30, p31, p32, p33⟩ := HB.dec (t := 25) (g := w3.heap.size) (a := .bool n9) (b := .int .u64 a9) (c := .int .u64 b9) (d := .int .i64 s) V (by simp)
          obtain ⟨g5, p50, p51, p52, p53⟩ := HB.dec (t := 25) (g := w6.heap.size) (a := .bool n5) (b := .int .u64 a5) (c := .int .u64 b5) (d := .int .i64 s) V (by simp)
          replace V := V.push #[.bool n6, .int .u64 a6, .int .u64 b6, .int .i64 t] 25
          go_wp2_with fail
          refine (qk_c _).mono ?_
          rintro e w8 ⟨_, rfl, rfl, hb⟩
          replace V := V.below hb
          clear hb
          clear g1 p10 p11 p12 p13 g2 p20 p21 p22 p23 g4 p40 p41 p42 p43 g3 p30 p31 p32 p33 g5 p50 p51 p52 p53
          obtain ⟨g1, p10, p11, p12, p13⟩ := HB.dec (t := 25) (g := w1.heap.size) (a := .bool n1) (b := .int .u64 a1) (c := .int .u64 b1) (d := .int .i64 s) V (by simp)
          obtain ⟨g2, p20, p21, p22, p23⟩ := HB.dec (t := 25) (g := w2.heap.size) (a := .bool n2) (b := .int .u64 a2) (c := .int .u64 b2) (d := .int .i64 t) V (by simp)
          obtain ⟨g4, p40, p41, p42, p43⟩ := HB.dec (t := 25) (g := w3.heap.size + 1) (a := .bool n3) (b := .int .u64 a3) (c := .int .u64 b3) (d := .int .i64 s) V (by simp)
          obtain ⟨g3, p30, p31, p32, p33⟩ := HB.dec (t := 25) (g := w3.heap.size) (a := .bool n9) (b := .int .u64 a9) (c := .int .u64 b9) (d := .int .i64 s) V (by simp)
          obtain ⟨g5, p50, p51, p52, p53⟩ := HB.dec (t := 25) (g := w6.heap.size) (a := .bool n5) (b := .int .u64 a5) (c := .int .u64 b5) (d := .int .i64 s) V (by simp)
          obtain ⟨g6, p60, p61, p62, p63⟩ := HB.dec (t := 25) (g := w7.heap.size) (a := .bool n6) (b := .int .u64 a6) (c := .int .u64 b6) (d := .int .i64 t) V (by simp)
          go_wp2_with fail
          refine (cmp_v n9 a9 b9 s ((δ.natAbs : Nat) : Int) n6 a6 b6 t 1 s (-1) _ D9e D6 HE.out H1.out ls lt0 s9 t9 (Or.inr ⟨ts, rfl⟩) HC1.out).mono ?_
          rintro e w9 ⟨_, rfl, rfl, hb⟩
          replace V := V.below hb
          clear hb
          clear g1 p10 p11 p12 p13 g2 p20 p21 p22 p23 g4 p40 p41 p42 p43 g3 p30 p31 p32 p33 g5 p50 p51 p52 p53 g6 p60 p61 p62 p63
          obtain ⟨g1, p10, p11, p12, p13⟩ := HB.dec (t := 25) (g := w1.heap.size) (a := .bool n1) (b := .int .u64 a1) (c := .int .u64 b1) (d := .int .i64 s) V (by simp)
          obtain ⟨g2, p20, p21, p22, p23⟩ := HB.dec (t := 25) (g := w2.heap.size) (a := .bool n2) (b := .int .u64 a2) (c := .int .u64 b2) (d := .int .i64 t) V (by simp)
          obtain ⟨g4, p40, p41, p42, p43⟩ := HB.dec (t := 25) (g := w3.heap.size + 1) (a := .bool n3) (b := .int .u64 a3) (c := .int .u64 b3) (d := .int .i64 s) V (by simp)
          obtain ⟨g3, p30, p31, p32, p33⟩ := HB.dec (t := 25) (g := w3.heap.size) (a := .bool n9) (b := .int .u64 a9) (c := .int .u64 b9) (d := .int .i64 s) V (by simp)
          obtain ⟨g5, p50, p51, p52, p53⟩ := HB.dec (t := 25) (g := w6.heap.size) (a := .bool n5) (b := .int .u64 a5) (c := .int .u64 b5) (d := .int .i64 s) V (by simp)
          obtain ⟨g6, p60, p61, p62, p63⟩ := HB.dec (t := 25) (g := w7.heap.size) (a := .bool n6) (b := .int .u64 a6) (c := .int .u64 b6) (d := .int .i64 t) V (by simp)
          have hc20 := HFm.out
          go_wp2_with fail
          refine (cmp_v n5 a5 b5 s (((δ.natAbs : Nat) : Int) + ((δ.natAbs : Nat) : Int)) n6 a6 b6 t 1 s c2 _ D5 D6 H2E.out H1.out ls lt0 s9 t9 (Or.inr ⟨ts, rfl⟩) HC2.out).mono ?_
          rintro e wa ⟨_, rfl, rfl, hb⟩
          replace V := V.below hb
          clear hb
          clear g1 p10 p11 p12 p13 g2 p20 p21 p22 p23 g4 p40 p41 p42 p43 g3 p30 p31 p32 p33 g5 p50 p51 p52 p53 g6 p60 p61 p62 p63
          obtain ⟨g1, p10, p11, p12, p13⟩ := HB.dec (t := 25) (g := w1.heap.size) (a := .bool n1) (b := .int .u64 a1) (c := .int .u64 b1) (d := .int .i64 s) V (by simp)
          obtain ⟨g2, p20, p21, p22, p23⟩ := HB.dec (t := 25) (g := w2.heap.size) (a := .bool n2) (b := .int .u64 a2) (c := .int .u64 b2) (d := .int .i64 t) V (by simp)
          obtain ⟨g4, p40, p41, p42, p43⟩ := HB.dec (t := 25) (g := w3.heap.size + 1) (a := .bool n3) (b := .int .u64 a3) (c := .int .u64 b3) (d := .int .i64 s) V (by simp)
          obtain ⟨g3, p30, p31, p32, p33⟩ := HB.dec (t := 25) (g := w3.heap.size) (a := .bool n9) (b := .int .u64 a9) (c := .int .u64 b9) (d := .int .i64 s) V (by simp)
          obtain ⟨g5, p50, p51, p52, p53⟩ := HB.dec (t := 25) (g := w6.heap.size) (a := .bool n5) (b := .int .u64 a5) (c := .int .u64 b5) (d := .int .i64 s) V (by simp)
          obtain ⟨g6, p60, p61, p62, p63⟩ := HB.dec (t := 25) (g := w7.heap.size) (a := .bool n6) (b := .int .u64 a6) (c := .int .u64 b6) (d := .int .i64 t) V (by simp)
          go_wp2_with fail
          refine (quant_v n2 a2 b2 t y t 3 n2 a2 b2 y _ D2 D2 (sm_30 Hy.out) lt0 t9 lt0 t9 (by decide) N (by rw [quantN_up n2 (Int.le_refl t), Int.sub_self]; simpa using HYN.out) (by have := HNb.out; omega) (by rw [← HYN.out]; exact zOf_self D2)).mono ?_
          rintro e wc ⟨_, rfl, rfl, hb⟩
          replace V := V.below hb
          clear hb
          clear g1 p10 p11 p12 p13 g2 p20 p21 p22 p23 g4 p40 p41 p42 p43 g3 p30 p31 p32 p33 g5 p50 p51 p52 p53 g6 p60 p61 p62 p63
          obtain ⟨g1, p10, p11, p12, p13⟩ := HB.dec (t := 25) (g := w1.heap.size) (a := .bool n1) (b := .int .u64 a1) (c := .int .u64 b1) (d := .int .i64 s) V (by simp)
          obtain ⟨g2, p20, p21, p22, p23⟩ := HB.dec (t := 25) (g := w2.heap.size) (a := .bool n2) (b := .int .u64 a2) (c := .int .u64 b2) (d := .int .i64 t) V (by simp)
          obtain ⟨g4, p40, p41, p42, p43⟩ := HB.dec (t := 25) (g := w3.heap.size + 1) (a := .bool n3) (b := .int .u64 a3) (c := .int .u64 b3) (d := .int .i64 s) V (by simp)
          obtain ⟨g3, p30, p31, p32, p33⟩ := HB.dec (t := 25) (g := w3.heap.size) (a := .bool n9) (b := .int .u64 a9) (c := .int .u64 b9) (d := .int .i64 s) V (by simp)
          obtain ⟨g5, p50, p51, p52, p53⟩ := HB.dec (t := 25) (g := w6.heap.size) (a := .bool n5) (b := .int .u64 a5) (c := .int .u64 b5) (d := .int .i64 s) V (by simp)
          obtain ⟨g6, p60, p61, p62, p63⟩ := HB.dec (t := 25) (g := w7.heap.size) (a := .bool n6) (b := .int .u64 a6) (c := .int .u64 b6) (d := .int .i64 t) V (by simp)
          replace V := V.push #[.bool n2, .int .u64 a2, .int .u64 b2, .int .i64 t] 25
          go_wp2_with fail
          refine (quant_q n2 a2 b2 t y s 3 _ D2 (sm_30 Hy.out) lt0 t9 ls s9 (by decide) (y.natAbs * Q) (by rw [quantN_up n2 ts, HQ.out]) (by have h := HYQ.out; unfold Sm at h; rw [Int.natAbs_mul, Int.natAbs_natCast] at h; omega)).mono ?_
          rintro e wd ⟨_, ⟨n8, a8, b8, D8, rfl⟩, rfl, hb⟩
          rw [← zOf_mul, zOf_self D2] at D8
          replace V := V.below hb
          clear hb
          clear g1 p10 p11 p12 p13 g2 p20 p21 p22 p23 g4 p40 p41 p42 p43 g3 p30 p31 p32 p33 g5 p50 p51 p52 p53 g6 p60 p61 p62 p63
          obtain ⟨g1, p10, p11, p12, p13⟩ := HB.dec (t := 25) (g := w1.heap.size) (a := .bool n1) (b := .int .u64 a1) (c := .int .u64 b1) (d := .int .i64 s) V (by simp)
          obtain ⟨g2, p20, p21, p22, p23⟩ := HB.dec (t := 25) (g := w2.heap.size) (a := .bool n2) (b := .int .u64 a2) (c := .int .u64 b2) (d := .int .i64 t) V (by simp)
          obtain ⟨g4, p40, p41, p42, p43⟩ := HB.dec (t := 25) (g := w3.heap.size + 1) (a := .bool n3) (b := .int .u64 a3) (c := .int .u64 b3) (d := .int .i64 s) V (by simp)
          obtain ⟨g3, p30, p31, p32, p33⟩ := HB.dec (t := 25) (g := w3.heap.size) (a := .bool n9) (b := .int .u64 a9) (c := .int .u64 b9) (d := .int .i64 s) V (by simp)
          obtain ⟨g5, p50, p51, p52, p53⟩ := HB.dec (t := 25) (g := w6.heap.size) (a := .bool n5) (b := .int .u64 a5) (c := .int .u64 b5) (d := .int .i64 s) V (by simp)
          obtain ⟨g6, p60, p61, p62, p63⟩ := HB.dec (t := 25) (g := w7.heap.size) (a := .bool n6) (b := .int .u64 a6) (c := .int .u64 b6) (d := .int .i64 t) V (by simp)
          obtain ⟨g7, p70, p71, p72, p73⟩ := HB.dec (t := 25) (g := wc.heap.size) (a := .bool n2) (b := .int .u64 a2) (c := .int .u64 b2) (d := .int .i64 t) V (by simp)
          replace V := V.push #[.bool n8, .int .u64 a8, .int .u64 b8, .int .i64 s] 25
          have q2 := eqW2_yes (a := a2) (b := b2) (c := a2) (d := b2) ⟨rfl, rfl⟩
          go_wp2_with fail
          refine (cmp_v n8 a8 b8 s (y * (Q : Int)) n2 a2 b2 t y s 0 _ D8 D2 HYQ.out Hy.out ls lt0 s9 t9 (Or.inr ⟨ts, rfl⟩) HCD.out).mono ?_
          rintro e we ⟨_, rfl, rfl, hb⟩
          replace V := V.below hb
          clear hb
          clear g1 p10 p11 p12 p13 g2 p20 p21 p22 p23 g4 p40 p41 p42 p43 g3 p30 p31 p32 p33 g5 p50 p51 p52 p53 g6 p60 p61 p62 p63 g7 p70 p71 p72 p73
          have HB1 := Lib.hid V.1
          clear V
          go_wp2
          go_ret
          exact ⟨rfl, HB1.out⟩
      · as_aux_lemma =>
          have hsg : δ.sign = 0 := by rw [hd]; rfl
          have HS := Lib.hid hsg
          go_wp2_with fail
          refine (sign_v n3 a3 b3 s δ (0) _ D3 (sm_30 Hδ.out) ls s9 HS.out).mono ?_
          rintro e w4 ⟨_, rfl, rfl, hb⟩
          replace V := V.below hb
          clear hb
          clear g1 p10 p11 p12 p13 g2 p20 p21 p22 p23
          have Hd := Lib.hid hd
          clear hsg hd
          obtain ⟨g1, p10, p11, p12, p13⟩ := HB.dec (t := 25) (g := w1.heap.size) (a := .bool n1) (b := .int .u64 a1) (c := .int .u64 b1) (d := .int .i64 s) V (by simp)
          obtain ⟨g2, p20, p21, p22, p23⟩ := HB.dec (t := 25) (g := w2.heap.size) (a := .bool n2) (b := .int .u64 a2) (c := .int .u64 b2) (d := .int .i64 t) V (by simp)
          obtain ⟨g3, p30, p31, p32, p33⟩ := HB.dec (t := 25) (g := w3.heap.size) (a := .bool n3) (b := .int .u64 a3) (c := .int .u64 b3) (d := .int .i64 s) V (by simp)
          obtain ⟨g4, p40, p41, p42, p43⟩ := HB.dec (t := 25) (g := w3.heap.size + 1) (a := .bool n3) (b := .int .u64 a3) (c := .int .u64 b3) (d := .int .i64 s) V (by simp)
          have e9 : ((δ.natAbs : Nat) : Int) = δ := by have := Hd.out; omega
          have D3e : DecIs n3 a3 b3 ((δ.natAbs : Nat) : Int) := by rw [e9]; exact D3
          clear e9
          go_wp2_with fail
          refine (add_d n3 a3 b3 s ((δ.natAbs : Nat) : Int) n3 a3 b3 s ((δ.natAbs : Nat) : Int) s _ D3e D3e HE.out HE.out ls ls s9 s9 (Or.inr ⟨Int.le_refl _, rfl⟩)).mono ?_
          rintro e w6 ⟨_, ⟨n5, a5, b5, D5, rfl⟩, rfl, hb⟩
          rw [zAt_self] at D5
          replace V := V.below hb
          clear hb
          clear g1 p10 p11 p12 p13 g2 p20 p21 p22 p23 g3 p30 p31 p32 p33 g4 p40 p41 p42 p43
          obtain ⟨g1, p10, p11, p12, p13⟩ := HB.dec (t := 25) (g := w1.heap.size) (a := .bool n1) (b := .int .u64 a1) (c := .int .u64 b1) (d := .int .i64 s) V (by simp)
          obtain ⟨g2, p20, p21, p22, p23⟩ := HB.dec (t := 25) (g := w2.heap.size) (a := .bool n2) (b := .int .u64 a2) (c := .int .u64 b2) (d := .int .i64 t) V (by simp)
          obtain ⟨g3, p30, p31, p32, p33⟩ := HB.dec (t := 25) (g := w3.heap.size) (a := .bool n3) (b := .int .u64 a3) (c := .int .u64 b3) (d := .int .i64 s) V (by simp)
          obtain ⟨g4, p40, p41, p42, p43⟩ := HB.dec (t := 25) (g := w3.heap.size + 1) (a := .bool n3) (b := .int .u64 a3) (c := .int .u64 b3) (d := .int .i64 s) V (by simp)
          replace V := V.push #[.bool n5, .int .u64 a5, .int .u64 b5, .int .i64 s] 25
          go_wp2_with fail
          refine (refOf_c 1 t _ (by decide) (by decide) lt0 t9).mono ?_
          rintro e w7 ⟨_, ⟨n6, a6, b6, D6, rfl⟩, rfl, hb⟩
          replace V := V.below hb
          clear hb
          clear g1 p10 p11 p12 p13 g2 p20 p21 p22 p23 g3 p30 p31 p32 p33 g4 p40 p41 p42 p43
          obtain ⟨g1, p10, p11, p12, p13⟩ := HB.dec (t := 25) (g := w1.heap.size) (a := .bool n1) (b := .int .u64 a1) (c := .int .u64 b1) (d := .int .i64 s) V (by simp)
          obtain ⟨g2, p20, p21, p22, p23⟩ := HB.dec (t := 25) (g := w2.heap.size) (a := .bool n2) (b := .int .u64 a2) (c := .int .u64 b2) (d := .int .i64 t) V (by simp)
          obtain ⟨g3, p30, p31, p32, p33⟩ := HB.dec (t := 25) (g := w3.heap.size) (a := .bool n3) (b := .int .u64 a3) (c := .int .u64 b3) (d := .int .i64 s) V (by simp)
          obtain ⟨g4, p40, p41, p42, p43⟩ := HB.dec (t := 25) (g := w3.heap.size + 1) (a := .bool n3) (b := .int .u64 a3) (c := .int .u64 b3) (d := .int .i64 s) V (by simp)
          obtain ⟨g5, p50, p51, p52, p53⟩ := HB.dec (t := 25) (g := w6.heap.size) (a := .bool n5) (b := .int .u64 a5) (c := .int .u64 b5) (d := .int .i64 s) V (by simp)
          replace V := V.push #[.bool n6, .int .u64 a6, .int .u64 b6, .int .i64 t] 25
          go_wp2_with fail
          refine (qk_c _).mono ?_
          rintro e w8 ⟨_, rfl, rfl, hb⟩
          replace V := V.below hb
          clear hb
          clear g1 p10 p11 p12 p13 g2 p20 p21 p22 p23 g3 p30 p31 p32 p33 g4 p40 p41 p42 p43 g5 p50 p51 p52 p53
          obtain ⟨g1, p10, p11, p12, p13⟩ := HB.dec (t := 25) (g := w1.heap.size) (a := .bool n1) (b := .int .u64 a1) (c := .int .u64 b1) (d := .int .i64 s) V (by simp)
          obtain ⟨g2, p20, p21, p22, p23⟩ := HB.dec (t := 25) (g := w2.heap.size) (a := .bool n2) (b := .int .u64 a2) (c := .int .u64 b2) (d := .int .i64 t) V (by simp)
          obtain ⟨g3, p30, p31, p32, p33⟩ := HB.dec (t := 25) (g := w3.heap.size) (a := .bool n3) (b := .int .u64 a3) (c := .int .u64 b3) (d := .int .i64 s) V (by simp)
          obtain ⟨g4, p40, p41, p42, p43⟩ := HB.dec (t := 25) (g := w3.heap.size + 1) (a := .bool n3) (b := .int .u64 a3) (c := .int .u64 b3) (d := .int .i64 s) V (by simp)
          obtain ⟨g5, p50, p51, p52, p53⟩ := HB.dec (t := 25) (g := w6.heap.size) (a := .bool n5) (b := .int .u64 a5) (c := .int .u64 b5) (d := .int .i64 s) V (by simp)
          obtain ⟨g6, p60, p61, p62, p63⟩ := HB.dec (t := 25) (g := w7.heap.size) (a := .bool n6) (b := .int .u64 a6) (c := .int .u64 b6) (d := .int .i64 t) V (by simp)
          go_wp2_with fail
          refine (cmp_v n3 a3 b3 s ((δ.natAbs : Nat) : Int) n6 a6 b6 t 1 s (-1) _ D3e D6 HE.out H1.out ls lt0 s9 t9 (Or.inr ⟨ts, rfl⟩) HC1.out).mono ?_
          rintro e w9 ⟨_, rfl, rfl, hb⟩
          replace V := V.below hb
          clear hb
          clear g1 p10 p11 p12 p13 g2 p20 p21 p22 p23 g3 p30 p31 p32 p33 g4 p40 p41 p42 p43 g5 p50 p51 p52 p53 g6 p60 p61 p62 p63
          obtain ⟨g1, p10, p11, p12, p13⟩ := HB.dec (t := 25) (g := w1.heap.size) (a := .bool n1) (b := .int .u64 a1) (c := .int .u64 b1) (d := .int .i64 s) V (by simp)
          obtain ⟨g2, p20, p21, p22, p23⟩ := HB.dec (t := 25) (g := w2.heap.size) (a := .bool n2) (b := .int .u64 a2) (c := .int .u64 b2) (d := .int .i64 t) V (by simp)
          obtain ⟨g3, p30, p31, p32, p33⟩ := HB.dec (t := 25) (g := w3.heap.size) (a := .bool n3) (b := .int .u64 a3) (c := .int .u64 b3) (d := .int .i64 s) V (by simp)
          obtain ⟨g4, p40, p41, p42, p43⟩ := HB.dec (t := 25) (g := w3.heap.size + 1) (a := .bool n3) (b := .int .u64 a3) (c := .int .u64 b3) (d := .int .i64 s) V (by simp)
          obtain ⟨g5, p50, p51, p52, p53⟩ := HB.dec (t := 25) (g := w6.heap.size) (a := .bool n5) (b := .int .u64 a5) (c := .int .u64 b5) (d := .int .i64 s) V (by simp)
          obtain ⟨g6, p60, p61, p62, p63⟩ := HB.dec (t := 25) (g := w7.heap.size) (a := .bool n6) (b := .int .u64 a6) (c := .int .u64 b6) (d := .int .i64 t) V (by simp)
          have hc20 := HFm.out
          go_wp2_with fail
          refine (cmp_v n5 a5 b5 s (((δ.natAbs : Nat) : Int) + ((δ.natAbs : Nat) : Int)) n6 a6 b6 t 1 s c2 _ D5 D6 H2E.out H1.out ls lt0 s9 t9 (Or.inr ⟨ts, rfl⟩) HC2.out).mono ?_
          rintro e wa ⟨_, rfl, rfl, hb⟩
          replace V := V.below hb
          clear hb
          clear g1 p10 p11 p12 p13 g2 p20 p21 p22 p23 g3 p30 p31 p32 p33 g4 p40 p41 p42 p43 g5 p50 p51 p52 p53 g6 p60 p61 p62 p63
          obtain ⟨g1, p10, p11, p12, p13⟩ := HB.dec (t := 25) (g := w1.heap.size) (a := .bool n1) (b := .int .u64 a1) (c := .int .u64 b1) (d := .int .i64 s) V (by simp)
          obtain ⟨g2, p20, p21, p22, p23⟩ := HB.dec (t := 25) (g := w2.heap.size) (a := .bool n2) (b := .int .u64 a2) (c := .int .u64 b2) (d := .int .i64 t) V (by simp)
          obtain ⟨g3, p30, p31, p32, p33⟩ := HB.dec (t := 25) (g := w3.heap.size) (a := .bool n3) (b := .int .u64 a3) (c := .int .u64 b3) (d := .int .i64 s) V (by simp)
          obtain ⟨g4, p40, p41, p42, p43⟩ := HB.dec (t := 25) (g := w3.heap.size + 1) (a := .bool n3) (b := .int .u64 a3) (c := .int .u64 b3) (d := .int .i64 s) V (by simp)
          obtain ⟨g5, p50, p51, p52, p53⟩ := HB.dec (t := 25) (g := w6.heap.size) (a := .bool n5) (b := .int .u64 a5) (c := .int .u64 b5) (d := .int .i64 s) V (by simp)
          obtain ⟨g6, p60, p61, p62, p63⟩ := HB.dec (t := 25) (g := w7.heap.size) (a := .bool n6) (b := .int .u64 a6) (c := .int .u64 b6) (d := .int .i64 t) V (by simp)
          go_wp2_with fail
          refine (quant_v n2 a2 b2 t y t 3 n2 a2 b2 y _ D2 D2 (sm_30 Hy.out) lt0 t9 lt0 t9 (by decide) N (by rw [quantN_up n2 (Int.le_refl t), Int.sub_self]; simpa using HYN.out) (by have := HNb.out; omega) (by rw [← HYN.out]; exact zOf_self D2)).mono ?_
          rintro e wc ⟨_, rfl, rfl, hb⟩
          replace V := V.below hb
          clear hb
          clear g1 p10 p11 p12 p13 g2 p20 p21 p22 p23 g3 p30 p31 p32 p33 g4 p40 p41 p42 p43 g5 p50 p51 p52 p53 g6 p60 p61 p62 p63
          obtain ⟨g1, p10, p11, p12, p13⟩ := HB.dec (t := 25) (g := w1.heap.size) (a := .bool n1) (b := .int .u64 a1) (c := .int .u64 b1) (d := .int .i64 s) V (by simp)
          obtain ⟨g2, p20, p21, p22, p23⟩ := HB.dec (t := 25) (g := w2.heap.size) (a := .bool n2) (b := .int .u64 a2) (c := .int .u64 b2) (d := .int .i64 t) V (by simp)
          obtain ⟨g3, p30, p31, p32, p33⟩ := HB.dec (t := 25) (g := w3.heap.size) (a := .bool n3) (b := .int .u64 a3) (c := .int .u64 b3) (d := .int .i64 s) V (by simp)
          obtain ⟨g4, p40, p41, p42, p43⟩ := HB.dec (t := 25) (g := w3.heap.size + 1) (a := .bool n3) (b := .int .u64 a3) (c := .int .u64 b3) (d := .int .i64 s) V (by simp)
          obtain ⟨g5, p50, p51, p52, p53⟩ := HB.dec (t := 25) (g := w6.heap.size) (a := .bool n5) (b := .int .u64 a5) (c := .int .u64 b5) (d := .int .i64 s) V (by simp)
          obtain ⟨g6, p60, p61, p62, p63⟩ := HB.dec (t := 25) (g := w7.heap.size) (a := .bool n6) (b := .int .u64 a6) (c := .int .u64 b6) (d := .int .i64 t) V (by simp)
          replace V := V.push #[.bool n2, .int .u64 a2, .int .u64 b2, .int .i64 t] 25
          go_wp2_with fail
          refine (quant_q n2 a2 b2 t y s 3 _ D2 (sm_30 Hy.out) lt0 t9 ls s9 (by decide) (y.natAbs * Q) (by rw [quantN_up n2 ts, HQ.out]) (by have h := HYQ.out; unfold Sm at h; rw [Int.natAbs_mul, Int.natAbs_natCast] at h; omega)).mono ?_
          rintro e wd ⟨_, ⟨n8, a8, b8, D8, rfl⟩, rfl, hb⟩
          rw [← zOf_mul, zOf_self D2] at D8
          replace V := V.below hb
          clear hb
          clear g1 p10 p11 p12 p13 g2 p20 p21 p22 p23 g3 p30 p31 p32 p33 g4 p40 p41 p42 p43 g5 p50 p51 p52 p53 g6 p60 p61 p62 p63
          obtain ⟨g1, p10, p11, p12, p13⟩ := HB.dec (t := 25) (g := w1.heap.size) (a := .bool n1) (b := .int .u64 a1) (c := .int .u64 b1) (d := .int .i64 s) V (by simp)
          obtain ⟨g2, p20, p21, p22, p23⟩ := HB.dec (t := 25) (g := w2.heap.size) (a := .bool n2) (b := .int .u64 a2) (c := .int .u64 b2) (d := .int .i64 t) V (by simp)
          obtain ⟨g3, p30, p31, p32, p33⟩ := HB.dec (t := 25) (g := w3.heap.size) (a := .bool n3) (b := .int .u64 a3) (c := .int .u64 b3) (d := .int .i64 s) V (by simp)
          obtain ⟨g4, p40, p41, p42, p43⟩ := HB.dec (t := 25) (g := w3.heap.size + 1) (a := .bool n3) (b := .int .u64 a3) (c := .int .u64 b3) (d := .int .i64 s) V (by simp)
          obtain ⟨g5, p50, p51, p52, p53⟩ := HB.dec (t := 25) (g := w6.heap.size) (a := .bool n5) (b := .int .u64 a5) (c := .int .u64 b5) (d := .int .i64 s) V (by simp)
          obtain ⟨g6, p60, p61, p62, p63⟩ := HB.dec (t := 25) (g := w7.heap.size) (a := .bool n6) (b := .int .u64 a6) (c := .int .u64 b6) (d := .int .i64 t) V (by simp)
          obtain ⟨g7, p70, p71, p72, p73⟩ := HB.dec (t := 25) (g := wc.heap.size) (a := .bool n2) (b := .int .u64 a2) (c := .int .u64 b2) (d := .int .i64 t) V (by simp)
          replace V := V.push #[.bool n8, .int .u64 a8, .int .u64 b8, .int .i64 s] 25
          have q2 := eqW2_yes (a := a2) (b := b2) (c := a2) (d := b2) ⟨rfl, rfl⟩
          go_wp2_with fail
          refine (cmp_v n8 a8 b8 s (y * (Q : Int)) n2 a2 b2 t y s 0 _ D8 D2 HYQ.out Hy.out ls lt0 s9 t9 (Or.inr ⟨ts, rfl⟩) HCD.out).mono ?_
          rintro e we ⟨_, rfl, rfl, hb⟩
          replace V := V.below hb
          clear hb
          clear g1 p10 p11 p12 p13 g2 p20 p21 p22 p23 g3 p30 p31 p32 p33 g4 p40 p41 p42 p43 g5 p50 p51 p52 p53 g6 p60 p61 p62 p63 g7 p70 p71 p72 p73
          have HB1 := Lib.hid V.1
          clear V
          go_wp2
          go_ret
          exact ⟨rfl, HB1.out⟩
      · as_aux_lemma =>
          have hsg : δ.sign = 1 := Int.sign_eq_one_of_pos hd
          have HS := Lib.hid hsg
          go_wp2_with fail
          refine (sign_v n3 a3 b3 s δ (1) _ D3 (sm_30 Hδ.out) ls s9 HS.out).mono ?_
          rintro e w4 ⟨_, rfl, rfl, hb⟩
          replace V := V.below hb
          clear hb
          clear g1 p10 p11 p12 p13 g2 p20 p21 p22 p23
          have Hd := Lib.hid hd
          clear hsg hd
          obtain ⟨g1, p10, p11, p12, p13⟩ := HB.dec (t := 25) (g := w1.heap.size) (a := .bool n1) (b := .int .u64 a1) (c := .int .u64 b1) (d := .int .i64 s) V (by simp)
          obtain ⟨g2, p20, p21, p22, p23⟩ := HB.dec (t := 25) (g := w2.heap.size) (a := .bool n2) (b := .int .u64 a2) (c := .int .u64 b2) (d := .int .i64 t) V (by simp)
          obtain ⟨g3, p30, p31, p32, p33⟩ := HB.dec (t := 25) (g := w3.heap.size) (a := .bool n3) (b := .int .u64 a3) (c := .int .u64 b3) (d := .int .i64 s) V (by simp)
          obtain ⟨g4, p40, p41, p42, p43⟩ := HB.dec (t := 25) (g := w3.heap.size + 1) (a := .bool n3) (b := .int .u64 a3) (c := .int .u64 b3) (d := .int .i64 s) V (by simp)
          have e9 : ((δ.natAbs : Nat) : Int) = δ := by have := Hd.out; omega
          have D3e : DecIs n3 a3 b3 ((δ.natAbs : Nat) : Int) := by rw [e9]; exact D3
          clear e9
          go_wp2_with fail
          refine (add_d n3 a3 b3 s ((δ.natAbs : Nat) : Int) n3 a3 b3 s ((δ.natAbs : Nat) : Int) s _ D3e D3e HE.out HE.out ls ls s9 s9 (Or.inr ⟨Int.le_refl _, rfl⟩)).mono ?_
          rintro e w6 ⟨_, ⟨n5, a5, b5, D5, rfl⟩, rfl, hb⟩
          rw [zAt_self] at D5
          replace V := V.below hb
          clear hb
          clear g1 p10 p11 p12 p13 g2 p20 p21 p22 p23 g3 p30 p31 p32 p33 g4 p40 p41 p42 p43
          obtain ⟨g1, p10, p11, p12, p13⟩ := HB.dec (t := 25) (g := w1.heap.size) (a := .bool n1) (b := .int .u64 a1) (c := .int .u64 b1) (d := .int .i64 s) V (by simp)
          obtain ⟨g2, p20, p21, p22, p23⟩ := HB.dec (t := 25) (g := w2.heap.size) (a := .bool n2) (b := .int .u64 a2) (c := .int .u64 b2) (d := .int .i64 t) V (by simp)
          obtain ⟨g3, p30, p31, p32, p33⟩ := HB.dec (t := 25) (g := w3.heap.size) (a := .bool n3) (b := .int .u64 a3) (c := .int .u64 b3) (d := .int .i64 s) V (by simp)
          obtain ⟨g4, p40, p41, p42, p43⟩ := HB.dec (t := 25) (g := w3.heap.size + 1) (a := .bool n3) (b := .int .u64 a3) (c := .int .u64 b3) (d := .int .i64 s) V (by simp)
          replace V := V.push #[.bool n5, .int .u64 a5, .int .u64 b5, .int .i64 s] 25
          go_wp2_with fail
          refine (refOf_c 1 t _ (by decide) (by decide) lt0 t9).mono ?_
          rintro e w7 ⟨_, ⟨n6, a6, b6, D6, rfl⟩, rfl, hb⟩
          replace V := V.below hb
          clear hb
          clear g1 p10 p11 p12 p13 g2 p20 p21 p22 p23 g3 p30 p31 p32 p33 g4 p40 p41 p42 p43
          obtain ⟨g1, p10, p11, p12, p13⟩ := HB.dec (t := 25) (g := w1.heap.size) (a := .bool n1) (b := .int .u64 a1) (c := .int .u64 b1) (d := .int .i64 s) V (by simp)
          obtain ⟨g2, p20, p21, p22, p23⟩ := HB.dec (t := 25) (g := w2.heap.size) (a := .bool n2) (b := .int .u64 a2) (c := .int .u64 b2) (d := .int .i64 t) V (by simp)
          obtain ⟨g3, p30, p31, p32, p33⟩ := HB.dec (t := 25) (g := w3.heap.size) (a := .bool n3) (b := .int .u64 a3) (c := .int .u64 b3) (d := .int .i64 s) V (by simp)
          obtain ⟨g4, p40, p41, p42, p43⟩ := HB.dec (t := 25) (g := w3.heap.size + 1) (a := .bool n3) (b := .int .u64 a3) (c := .int .u64 b3) (d := .int .i64 s) V (by simp)
          obtain ⟨g5, p50, p51, p52, p53⟩ := HB.dec (t := 25) (g := w6.heap.size) (a := .bool n5) (b := .int .u64 a5) (c := .int .u64 b5) (d := .int .i64 s) V (by simp)
          replace V := V.push #[.bool n6, .int .u64 a6, .int .u64 b6, .int .i64 t] 25
          go_wp2_with fail
          refine (qk_c _).mono ?_
          rintro e w8 ⟨_, rfl, rfl, hb⟩
          replace V := V.below hb
          clear hb
          clear g1 p10 p11 p12 p13 g2 p20 p21 p22 p23 g3 p30 p31 p32 p33 g4 p40 p41 p42 p43 g5 p50 p51 p52 p53
          obtain ⟨g1, p10, p11, p12, p13⟩ := HB.dec (t := 25) (g := w1.heap.size) (a := .bool n1) (b := .int .u64 a1) (c := .int .u64 b1) (d := .int .i64 s) V (by simp)
          obtain ⟨g2, p20, p21, p22, p23⟩ := HB.dec (t := 25) (g := w2.heap.size) (a := .bool n2) (b := .int .u64 a2) (c := .int .u64 b2) (d := .int .i64 t) V (by simp)
          obtain ⟨g3, p30, p31, p32, p33⟩ := HB.dec (t := 25) (g := w3.heap.size) (a := .bool n3) (b := .int .u64 a3) (c := .int .u64 b3) (d := .int .i64 s) V (by simp)
          obtain ⟨g4, p40, p41, p42, p43⟩ := HB.dec (t := 25) (g := w3.heap.size + 1) (a := .bool n3) (b := .int .u64 a3) (c := .int .u64 b3) (d := .int .i64 s) V (by simp)
          obtain ⟨g5, p50, p51, p52, p53⟩ := HB.dec (t := 25) (g := w6.heap.size) (a := .bool n5) (b := .int .u64 a5) (c := .int .u64 b5) (d := .int .i64 s) V (by simp)
          obtain ⟨g6, p60, p61, p62, p63⟩ := HB.dec (t := 25) (g := w7.heap.size) (a := .bool n6) (b := .int .u64 a6) (c := .int .u64 b6) (d := .int .i64 t) V (by simp)
          go_wp2_with fail
          refine (cmp_v n3 a3 b3 s ((δ.natAbs : Nat) : Int) n6 a6 b6 t 1 s (-1) _ D3e D6 HE.out H1.out ls lt0 s9 t9 (Or.inr ⟨ts, rfl⟩) HC1.out).mono ?_
          rintro e w9 ⟨_, rfl, rfl, hb⟩
          replace V := V.below hb
          clear hb
          clear g1 p10 p11 p12 p13 g2 p20 p21 p22 p23 g3 p30 p31 p32 p33 g4 p40 p41 p42 p43 g5 p50 p51 p52 p53 g6 p60 p61 p62 p63
          obtain ⟨g1, p10, p11, p12, p13⟩ := HB.dec (t := 25) (g := w1.heap.size) (a := .bool n1) (b := .int .u64 a1) (c := .int .u64 b1) (d := .int .i64 s) V (by simp)
          obtain ⟨g2, p20, p21, p22, p23⟩ := HB.dec (t := 25) (g := w2.heap.size) (a := .bool n2) (b := .int .u64 a2) (c := .int .u64 b2) (d := .int .i64 t) V (by simp)
          obtain ⟨g3, p30, p31, p32, p33⟩ := HB.dec (t := 25) (g := w3.heap.size) (a := .bool n3) (b := .int .u64 a3) (c := .int .u64 b3) (d := .int .i64 s) V (by simp)
          obtain ⟨g4, p40, p41, p42, p43⟩ := HB.dec (t := 25) (g := w3.heap.size + 1) (a := .bool n3) (b := .int .u64 a3) (c := .int .u64 b3) (d := .int .i64 s) V (by simp)
          obtain ⟨g5, p50, p51, p52, p53⟩ := HB.dec (t := 25) (g := w6.heap.size) (a := .bool n5) (b := .int .u64 a5) (c := .int .u64 b5) (d := .int .i64 s) V (by simp)
          obtain ⟨g6, p60, p61, p62, p63⟩ := HB.dec (t := 25) (g := w7.heap.size) (a := .bool n6) (b := .int .u64 a6) (c := .int .u64 b6) (d := .int .i64 t) V (by simp)
          have hc20 := HFm.out
          go_wp2_with fail
          refine (cmp_v n5 a5 b5 s (((δ.natAbs : Nat) : Int) + ((δ.natAbs : Nat) : Int)) n6 a6 b6 t 1 s c2 _ D5 D6 H2E.out H1.out ls lt0 s9 t9 (Or.inr ⟨ts, rfl⟩) HC2.out).mono ?_
          rintro e wa ⟨_, rfl, rfl, hb⟩
          replace V := V.below hb
          clear hb
          clear g1 p10 p11 p12 p13 g2 p20 p21 p22 p23 g3 p30 p31 p32 p33 g4 p40 p41 p42 p43 g5 p50 p51 p52 p53 g6 p60 p61 p62 p63
          obtain ⟨g1, p10, p11, p12, p13⟩ := HB.dec (t := 25) (g := w1.heap.size) (a := .bool n1) (b := .int .u64 a1) (c := .int .u64 b1) (d := .int .i64 s) V (by simp)
          obtain ⟨g2, p20, p21, p22, p23⟩ := HB.dec (t := 25) (g := w2.heap.size) (a := .bool n2) (b := .int .u64 a2) (c := .int .u64 b2) (d := .int .i64 t) V (by simp)
          obtain ⟨g3, p30, p31, p32, p33⟩ := HB.dec (t := 25) (g := w3.heap.size) (a := .bool n3) (b := .int .u64 a3) (c := .int .u64 b3) (d := .int .i64 s) V (by simp)
          obtain ⟨g4, p40, p41, p42, p43⟩ := HB.dec (t := 25) (g := w3.heap.size + 1) (a := .bool n3) (b := .int .u64 a3) (c := .int .u64 b3) (d := .int .i64 s) V (by simp)
          obtain ⟨g5, p50, p51, p52, p53⟩ := HB.dec (t := 25) (g := w6.heap.size) (a := .bool n5) (b := .int .u64 a5) (c := .int .u64 b5) (d := .int .i64 s) V (by simp)
          obtain ⟨g6, p60, p61, p62, p63⟩ := HB.dec (t := 25) (g := w7.heap.size) (a := .bool n6) (b := .int .u64 a6) (c := .int .u64 b6) (d := .int .i64 t) V (by simp)
          go_wp2_with fail
          refine (quant_v n2 a2 b2 t y t 3 n2 a2 b2 y _ D2 D2 (sm_30 Hy.out) lt0 t9 lt0 t9 (by decide) N (by rw [quantN_up n2 (Int.le_refl t), Int.sub_self]; simpa using HYN.out) (by have := HNb.out; omega) (by rw [← HYN.out]; exact zOf_self D2)).mono ?_
          rintro e wc ⟨_, rfl, rfl, hb⟩
          replace V := V.below hb
          clear hb
          clear g1 p10 p11 p12 p13 g2 p20 p21 p22 p23 g3 p30 p31 p32 p33 g4 p40 p41 p42 p43 g5 p50 p51 p52 p53 g6 p60 p61 p62 p63
          obtain ⟨g1, p10, p11, p12, p13⟩ := HB.dec (t := 25) (g := w1.heap.size) (a := .bool n1) (b := .int .u64 a1) (c := .int .u64 b1) (d := .int .i64 s) V (by simp)
          obtain ⟨g2, p20, p21, p22, p23⟩ := HB.dec (t := 25) (g := w2.heap.size) (a := .bool n2) (b := .int .u64 a2) (c := .int .u64 b2) (d := .int .i64 t) V (by simp)
          obtain ⟨g3, p30, p31, p32, p33⟩ := HB.dec (t := 25) (g := w3.heap.size) (a := .bool n3) (b := .int .u64 a3) (c := .int .u64 b3) (d := .int .i64 s) V (by simp)
          obtain ⟨g4, p40, p41, p42, p43⟩ := HB.dec (t := 25) (g := w3.heap.size + 1) (a := .bool n3) (b := .int .u64 a3) (c := .int .u64 b3) (d := .int .i64 s) V (by simp)
          obtain ⟨g5, p50, p51, p52, p53⟩ := HB.dec (t := 25) (g := w6.heap.size) (a := .bool n5) (b := .int .u64 a5) (c := .int .u64 b5) (d := .int .i64 s) V (by simp)
          obtain ⟨g6, p60, p61, p62, p63⟩ := HB.dec (t := 25) (g := w7.heap.size) (a := .bool n6) (b := .int .u64 a6) (c := .int .u64 b6) (d := .int .i64 t) V (by simp)
          replace V := V.push #[.bool n2, .int .u64 a2, .int .u64 b2, .int .i64 t] 25
          go_wp2_with fail
          refine (quant_q n2 a2 b2 t y s 3 _ D2 (sm_30 Hy.out) lt0 t9 ls s9 (by decide) (y.natAbs * Q) (by rw [quantN_up n2 ts, HQ.out]) (by have h := HYQ.out; unfold Sm at h; rw [Int.natAbs_mul, Int.natAbs_natCast] at h; omega)).mono ?_
          rintro e wd ⟨_, ⟨n8, a8, b8, D8, rfl⟩, rfl, hb⟩
          rw [← zOf_mul, zOf_self D2] at D8
          replace V := V.below hb
          clear hb
          clear g1 p10 p11 p12 p13 g2 p20 p21 p22 p23 g3 p30 p31 p32 p33 g4 p40 p41 p42 p43 g5 p50 p51 p52 p53 g6 p60 p61 p62 p63
          obtain ⟨g1, p10, p11, p12, p13⟩ := HB.dec (t := 25) (g := w1.heap.size) (a := .bool n1) (b := .int .u64 a1) (c := .int .u64 b1) (d := .int .i64 s) V (by simp)
          obtain ⟨g2, p20, p21, p22, p23⟩ := HB.dec (t := 25) (g := w2.heap.size) (a := .bool n2) (b := .int .u64 a2) (c := .int .u64 b2) (d := .int .i64 t) V (by simp)
          obtain ⟨g3, p30, p31, p32, p33⟩ := HB.dec (t := 25) (g := w3.heap.size) (a := .bool n3) (b := .int .u64 a3) (c := .int .u64 b3) (d := .int .i64 s) V (by simp)
          obtain ⟨g4, p40, p41, p42, p43⟩ := HB.dec (t := 25) (g := w3.heap.size + 1) (a := .bool n3) (b := .int .u64 a3) (c := .int .u64 b3) (d := .int .i64 s) V (by simp)
          obtain ⟨g5, p50, p51, p52, p53⟩ := HB.dec (t := 25) (g := w6.heap.size) (a := .bool n5) (b := .int .u64 a5) (c := .int .u64 b5) (d := .int .i64 s) V (by simp)
          obtain ⟨g6, p60, p61, p62, p63⟩ := HB.dec (t := 25) (g := w7.heap.size) (a := .bool n6) (b := .int .u64 a6) (c := .int .u64 b6) (d := .int .i64 t) V (by simp)
          obtain ⟨g7, p70, p71, p72, p73⟩ := HB.dec (t := 25) (g := wc.heap.size) (a := .bool n2) (b := .int .u64 a2) (c := .int .u64 b2) (d := .int .i64 t) V (by simp)
          replace V := V.push #[.bool n8, .int .u64 a8, .int .u64 b8, .int .i64 s] 25
          have q2 := eqW2_yes (a := a2) (b := b2) (c := a2) (d := b2) ⟨rfl, rfl⟩
          go_wp2_with fail
          refine (cmp_v n8 a8 b8 s (y * (Q : Int)) n2 a2 b2 t y s 0 _ D8 D2 HYQ.out Hy.out ls lt0 s9 t9 (Or.inr ⟨ts, rfl⟩) HCD.out).mono ?_
          rintro e we ⟨_, rfl, rfl, hb⟩
          replace V := V.below hb
          clear hb
          clear g1 p10 p11 p12 p13 g2 p20 p21 p22 p23 g3 p30 p31 p32 p33 g4 p40 p41 p42 p43 g5 p50 p51 p52 p53 g6 p60 p61 p62 p63 g7 p70 p71 p72 p73
          have HB1 := Lib.hid V.1
          clear V
          go_wp2
          go_ret
          exact ⟨rfl, HB1.out⟩
  · as_aux_lemma =>
      have HFm := Lib.hid (HC20.out (by decide))
      clear HF HC20
      go_wp2_with fail
      refine (quant_q n1 a1 b1 s x t 4 _ D1 (sm_30 Hx.out) ls s9 lt0 t9 (by decide) N HN.out (by have := HNb.out; omega)).mono ?_
      rintro e w2 ⟨_, ⟨n2, a2, b2, D2, rfl⟩, rfl, hb⟩
      rw [HY.out] at D2
      replace V := V.below hb
      clear hb
      obtain ⟨g1, p10, p11, p12, p13⟩ := HB.dec (t := 25) (g := w1.heap.size) (a := .bool n1) (b := .int .u64 a1) (c := .int .u64 b1) (d := .int .i64 s) V (by simp)
      replace V := V.push #[.bool n2, .int .u64 a2, .int .u64 b2, .int .i64 t] 25
      go_wp2_with fail
      refine (sub_d n2 a2 b2 t y n1 a1 b1 s x s _ D1 D2 Hy.out Hx.out lt0 ls t9 s9 (by omega)).mono ?_
      rintro e w3 ⟨_, ⟨n3, a3, b3, D3, rfl⟩, rfl, hb⟩
      rw [zAt_self, HZY.out, HD.out] at D3
      replace V := V.below hb
      clear hb
      clear g1 p10 p11 p12 p13
      obtain ⟨g1, p10, p11, p12, p13⟩ := HB.dec (t := 25) (g := w1.heap.size) (a := .bool n1) (b := .int .u64 a1) (c := .int .u64 b1) (d := .int .i64 s) V (by simp)
      obtain ⟨g2, p20, p21, p22, p23⟩ := HB.dec (t := 25) (g := w2.heap.size) (a := .bool n2) (b := .int .u64 a2) (c := .int .u64 b2) (d := .int .i64 t) V (by simp)
      have V2 : HB w [(w3.heap.size + 1, 25, #[.bool n3, .int .u64 a3, .int .u64 b3, .int .i64 s]), (w3.heap.size, 25, #[.bool n3, .int .u64 a3, .int .u64 b3, .int .i64 s]), (w2.heap.size, 25, #[.bool n2, .int .u64 a2, .int .u64 b2, .int .i64 t]), (w1.heap.size, 25, #[.bool n1, .int .u64 a1, .int .u64 b1, .int .i64 s])] ((w3.alloc (.cells #[.bool n3, .int .u64 a3, .int .u64 b3, .int .i64 s] 25)).alloc (.cells #[.bool n3, .int .u64 a3, .int .u64 b3, .int .i64 s] 25)) := by
        have h := (V.push #[.bool n3, .int .u64 a3, .int .u64 b3, .int .i64 s] 25).push #[.bool n3, .int .u64 a3, .int .u64 b3, .int .i64 s] 25
        simpa using h
      have HG := Lib.hid V.1.size
      have HNE := Lib.hid (show ∀ b0 ∈ ([(w3.heap.size + 1, 25, #[.bool n3, .int .u64 a3, .int .u64 b3, .int .i64 s]), (w2.heap.size, 25, #[.bool n2, .int .u64 a2, .int .u64 b2, .int .i64 t]), (w1.heap.size, 25, #[.bool n1, .int .u64 a1, .int .u64 b1, .int .i64 s])] : List (Nat × TypeId × Array Value)), b0.1 ≠ w3.heap.size from fun b0 hb => by
        simp at hb
        rcases hb with rfl | rfl | rfl <;> (dsimp only; omega))
      clear V
      have V := V2
      clear V2
      rcases (show δ < 0 ∨ δ = 0 ∨ 0 < δ by omega) with hd | hd | hd
      · as_aux_lemma =>
          have hsg : δ.sign = -1 := Int.sign_eq_neg_one_of_neg hd
          have HS := Lib.hid hsg
          go_wp2_with fail
          refine (sign_v n3 a3 b3 s δ (-1) _ D3 (sm_30 Hδ.out) ls s9 HS.out).mono ?_
          rintro e w4 ⟨_, rfl, rfl, hb⟩
          replace V := V.below hb
          clear hb
          clear g1 p10 p11 p12 p13 g2 p20 p21 p22 p23
          have Hd := Lib.hid hd
          clear hsg hd
          obtain ⟨g1, p10, p11, p12, p13⟩ := HB.dec (t := 25) (g := w1.heap.size) (a := .bool n1) (b := .int .u64 a1) (c := .int .u64 b1) (d := .int .i64 s) V (by simp)
          obtain ⟨g2, p20, p21, p22, p23⟩ := HB.dec (t := 25) (g := w2.heap.size) (a := .bool n2) (b := .int .u64 a2) (c := .int .u64 b2) (d := .int .i64 t) V (by simp)
          obtain ⟨g3, p30, p31, p32, p33⟩ := HB.dec (t := 25) (g := w3.heap.size) (a := .bool n3) (b := .int .u64 a3) (c := .int .u64 b3) (d := .int .i64 s) V (by simp)
          obtain ⟨g4, p40, p41, p42, p43⟩ := HB.dec (t := 25) (g := w3.heap.size + 1) (a := .bool n3) (b := .int .u64 a3) (c := .int .u64 b3) (d := .int .i64 s) V (by simp)
          go_wp2_with fail
          refine (neg_d n3 a3 b3 s δ _ D3 (sm_30 Hδ.out) ls s9).mono ?_
          rintro e w5 ⟨_, ⟨n9, a9, b9, D9, rfl⟩, rfl, hb⟩
          have e9 : ((δ.natAbs : Nat) : Int) = -δ := by have := Hd.out; omega
          have D9e : DecIs n9 a9 b9 ((δ.natAbs : Nat) : Int) := by rw [e9]; exact D9
          clear e9
          replace V := V.below hb
          clear hb D9
          clear g1 p10 p11 p12 p13 g2 p20 p21 p22 p23 g3 p30 p31 p32 p33 g4 p40 p41 p42 p43
          have Bo := HB.blk (g := w3.heap.size) (t := 25) (cs := #[.bool n3, .int .u64 a3, .int .u64 b3, .int .i64 s]) V (by simp)
          have hgo : w.heap.size ≤ w3.heap.size := by exact HG.out
          have V2 := HB.set4 (g := w3.heap.size) (t := 25) (bs := [(w3.heap.size + 1, 25, #[.bool n3, .int .u64 a3, .int .u64 b3, .int .i64 s]), (w2.heap.size, 25, #[.bool n2, .int .u64 a2, .int .u64 b2, .int .i64 t]), (w1.heap.size, 25, #[.bool n1, .int .u64 a1, .int .u64 b1, .int .i64 s])]) (a' := .bool n9) (b' := .int .u64 a9) (c' := .int .u64 b9) (d' := .int .i64 s) (HB.sub V (by simp)) Bo hgo HNE.out
          obtain ⟨g1, p10, p11, p12, p13⟩ := HB.dec (t := 25) (g := w1.heap.size) (a := .bool n1) (b := .int .u64 a1) (c := .int .u64 b1) (d := .int .i64 s) V (by simp)
          obtain ⟨g2, p20, p21, p22, p23⟩ := HB.dec (t := 25) (g := w2.heap.size) (a := .bool n2) (b := .int .u64 a2) (c := .int .u64 b2) (d := .int .i64 t) V (by simp)
          obtain ⟨g3, p30, p31, p32, p33⟩ := HB.dec (t := 25) (g := w3.heap.size) (a := .bool n3) (b := .int .u64 a3) (c := .int .u64 b3) (d := .int .i64 s) V (by simp)
          obtain ⟨g4, p40, p41, p42, p43⟩ := HB.dec (t := 25) (g := w3.heap.size + 1) (a := .bool n3) (b := .int .u64 a3) (c := .int .u64 b3) (d := .int .i64 s) V (by simp)
          have fz0 := Bo.frozen 0
          have fz1 := Bo.frozen 1
          have fz2 := Bo.frozen 2
          have fz3 := Bo.frozen 3
          clear V Bo
          have V := V2
          clear V2
          go_wp2_with fail
          refine (add_d n9 a9 b9 s ((δ.natAbs : Nat) : Int) n9 a9 b9 s ((δ.natAbs : Nat) : Int) s _ D9e D9e HE.out HE.out ls ls s9 s9 (Or.inr ⟨Int.le_refl _, rfl⟩)).mono ?_
          rintro e w6 ⟨_, ⟨n5, a5, b5, D5, rfl⟩, rfl, hb⟩
          rw [zAt_self] at D5
          replace V := V.below hb
          clear hb
          clear g1 p10 p11 p12 p13 g2 p20 p21 p22 p23 g3 p30 p31 p32 p33 g4 p40 p41 p42 p43
          clear fz0 fz1 fz2 fz3
          obtain ⟨g1, p10, p11, p12, p13⟩ := HB.dec (t := 25) (g := w1.heap.size) (a := .bool n1) (b := .int .u64 a1) (c := .int .u64 b1) (d := .int .i64 s) V (by simp)
          obtain ⟨g2, p20, p21, p22, p23⟩ := HB.dec (t := 25) (g := w2.heap.size) (a := .bool n2) (b := .int .u64 a2) (c := .int .u64 b2) (d := .int .i64 t) V (by simp)
          obtain ⟨g4, p40, p41, p42, p43⟩ := HB.dec (t := 25) (g := w3.heap.size + 1) (a := .bool n3) (b := .int .u64 a3) (c := .int .u64 b3) (d := .int .i64 s) V (by simp)
          obtain ⟨g3, p30, p31, p32, p33⟩ := HB.dec (t := 25) (g := w3.heap.size) (a := .bool n9) (b := .int .u64 a9) (c := .int .u64 b9) (d := .int .i64 s) V (by simp)
          replace V := V.push #[.bool n5, .int .u64 a5, .int .u64 b5, .int .i64 s] 25
          go_wp2_with fail
          refine (refOf_c 1 t _ (by decide) (by decide) lt0 t9).mono ?_
          rintro e w7 ⟨_, ⟨n6, a6, b6, D6, rfl⟩, rfl, hb⟩
          replace V := V.below hb
          clear hb
          clear g1 p10 p11 p12 p13 g2 p20 p21 p22 p23 g4 p40 p41 p42 p43 g3 p30 p31 p32 p33
          obtain ⟨g1, p10, p11, p12, p13⟩ := HB.dec (t := 25) (g := w1.heap.size) (a := .bool n1) (b := .int .u64 a1) (c := .int .u64 b1) (d := .int .i64 s) V (by simp)
          obtain ⟨g2, p20, p21, p22, p23⟩ := HB.dec (t := 25) (g := w2.heap.size) (a := .bool n2) (b := .int .u64 a2) (c := .int .u64 b2) (d := .int .i64 t) V (by simp)
          obtain ⟨g4, p40, p41, p42, p43⟩ := HB.dec (t := 25) (g := w3.heap.size + 1) (a := .bool n3) (b := .int .u64 a3) (c := .int .u64 b3) (d := .int .i64 s) V (by simp)
          obtain ⟨g3, p30, p31, p32, p33⟩ := HB.dec (t := 25) (g := w3.heap.size) (a := .bool n9) (b := .int .u64 a9) (c := .int .u64 b9) (d := .int .i64 s) V (by simp)
          obtain ⟨g5, p50, p51, p52, p53⟩ := HB.dec (t := 25) (g := w6.heap.size) (a := .bool n5) (b := .int .u64 a5) (c := .int .u64 b5) (d := .int .i64 s) V (by simp)
          replace V := V.push #[.bool n6, .int .u64 a6, .int .u64 b6, .int .i64 t] 25
          go_wp2_with fail
          refine (qk_c _).mono ?_
          rintro e w8 ⟨_, rfl, rfl, hb⟩
          replace V := V.below hb
          clear hb
          clear g1 p10 p11 p12 p13 g2 p20 p21 p22 p23 g4 p40 p41 p42 p43 g3 p30 p31 p32 p33 g5 p50 p51 p52 p53
          obtain ⟨g1, p10, p11, p12, p13⟩ := HB.dec (t := 25) (g := w1.heap.size) (a := .bool n1) (b := .int .u64 a1) (c := .int .u64 b1) (d := .int .i64 s) V (by simp)
          obtain ⟨g2, p20, p21, p22, p23⟩ := HB.dec (t := 25) (g := w2.heap.size) (a := .bool n2) (b := .int .u64 a2) (c := .int .u64 b2) (d := .int .i64 t) V (by simp)
          obtain ⟨g4, p40, p41, p42, p43⟩ := HB.dec (t := 25) (g := w3.heap.size + 1) (a := .bool n3) (b := .int .u64 a3) (c := .int .u64 b3) (d := .int .i64 s) V (by simp)
          obtain ⟨g3, p30, p31, p32, p33⟩ := HB.dec (t := 25) (g := w3.heap.size) (a := .bool n9) (b := .int .u64 a9) (c := .int .u64 b9) (d := .int .i64 s) V (by simp)
          obtain ⟨g5, p50, p51, p52, p53⟩ := HB.dec (t := 25) (g := w6.heap.size) (a := .bool n5) (b := .int .u64 a5) (c := .int .u64 b5) (d := .int .i64 s) V (by simp)
          obtain ⟨g6, p60, p61, p62, p63⟩ := HB.dec (t := 25) (g := w7.heap.size) (a := .bool n6) (b := .int .u64 a6) (c := .int .u64 b6) (d := .int .i64 t) V (by simp)
          go_wp2_with fail
          refine (cmp_v n9 a9 b9 s ((δ.natAbs : Nat) : Int) n6 a6 b6 t 1 s (-1) _ D9e D6 HE.out H1.out ls lt0 s9 t9 (Or.inr ⟨ts, rfl⟩) HC1.out).mono ?_
          rintro e w9 ⟨_, rfl, rfl, hb⟩
          replace V := V.below hb
          clear hb
          clear g1 p10 p11 p12 p13 g2 p20 p21 p22 p23 g4 p40 p41 p42 p43 g3 p30 p31 p32 p33 g5 p50 p51 p52 p53 g6 p60 p61 p62 p63
          obtain ⟨g1, p10, p11, p12, p13⟩ := HB.dec (t := 25) (g := w1.heap.size) (a := .bool n1) (b := .int .u64 a1) (c := .int .u64 b1) (d := .int .i64 s) V (by simp)
          obtain ⟨g2, p20, p21, p22, p23⟩ := HB.dec (t := 25) (g := w2.heap.size) (a := .bool n2) (b := .int .u64 a2) (c := .int .u64 b2) (d := .int .i64 t) V (by simp)
          obtain ⟨g4, p40, p41, p42, p43⟩ := HB.dec (t := 25) (g := w3.heap.size + 1) (a := .bool n3) (b := .int .u64 a3) (c := .int .u64 b3) (d := .int .i64 s) V (by simp)
          obtain ⟨g3, p30, p31, p32, p33⟩ := HB.dec (t := 25) (g := w3.heap.size) (a := .bool n9) (b := .int .u64 a9) (c := .int .u64 b9) (d := .int .i64 s) V (by simp)
          obtain ⟨g5, p50, p51, p52, p53⟩ := HB.dec (t := 25) (g := w6.heap.size) (a := .bool n5) (b := .int .u64 a5) (c := .int .u64 b5) (d := .int .i64 s) V (by simp)
          obtain ⟨g6, p60, p61, p62, p63⟩ := HB.dec (t := 25) (g := w7.heap.size) (a := .bool n6) (b := .int .u64 a6) (c := .int .u64 b6) (d := .int .i64 t) V (by simp)
          have hc20 := HFm.out
          go_wp2_with fail
          refine (cmp_v n5 a5 b5 s (((δ.natAbs : Nat) : Int) + ((δ.natAbs : Nat) : Int)) n6 a6 b6 t 1 s c2 _ D5 D6 H2E.out H1.out ls lt0 s9 t9 (Or.inr ⟨ts, rfl⟩) HC2.out).mono ?_
          rintro e wa ⟨_, rfl, rfl, hb⟩
          replace V := V.below hb
          clear hb
          clear g1 p10 p11 p12 p13 g2 p20 p21 p22 p23 g4 p40 p41 p42 p43 g3 p30 p31 p32 p33 g5 p50 p51 p52 p53 g6 p60 p61 p62 p63
          obtain ⟨g1, p10, p11, p12, p13⟩ := HB.dec (t := 25) (g := w1.heap.size) (a := .bool n1) (b := .int .u64 a1) (c := .int .u64 b1) (d := .int .i64 s) V (by simp)
          obtain ⟨g2, p20, p21, p22, p23⟩ := HB.dec (t := 25) (g := w2.heap.size) (a := .bool n2) (b := .int .u64 a2) (c := .int .u64 b2) (d := .int .i64 t) V (by simp)
          obtain ⟨g4, p40, p41, p42, p43⟩ := HB.dec (t := 25) (g := w3.heap.size + 1) (a := .bool n3) (b := .int .u64 a3) (c := .int .u64 b3) (d := .int .i64 s) V (by simp)
          obtain ⟨g3, p30, p31, p32, p33⟩ := HB.dec (t := 25) (g := w3.heap.size) (a := .bool n9) (b := .int .u64 a9) (c := .int .u64 b9) (d := .int .i64 s) V (by simp)
          obtain ⟨g5, p50, p51, p52, p53⟩ := HB.dec (t := 25) (g := w6.heap.size) (a := .bool n5) (b := .int .u64 a5) (c := .int .u64 b5) (d := .int .i64 s) V (by simp)
          obtain ⟨g6, p60, p61, p62, p63⟩ := HB.dec (t := 25) (g := w7.heap.size) (a := .bool n6) (b := .int .u64 a6) (c := .int .u64 b6) (d := .int .i64 t) V (by simp)
          go_wp2_with fail
          refine (quant_v n2 a2 b2 t y t 4 n2 a2 b2 y _ D2 D2 (sm_30 Hy.out) lt0 t9 lt0 t9 (by decide) N (by rw [quantN_up n2 (Int.le_refl t), Int.sub_self]; simpa using HYN.out) (by have := HNb.out; omega) (by rw [← HYN.out]; exact zOf_self D2)).mono ?_
          rintro e wc ⟨_, rfl, rfl, hb⟩
          replace V := V.below hb
          clear hb
          clear g1 p10 p11 p12 p13 g2 p20 p21 p22 p23 g4 p40 p41 p42 p43 g3 p30 p31 p32 p33 g5 p50 p51 p52 p53 g6 p60 p61 p62 p63
          obtain ⟨g1, p10, p11, p12, p13⟩ := HB.dec (t := 25) (g := w1.heap.size) (a := .bool n1) (b := .int .u64 a1) (c := .int .u64 b1) (d := .int .i64 s) V (by simp)
          obtain ⟨g2, p20, p21, p22, p23⟩ := HB.dec (t := 25) (g := w2.heap.size) (a := .bool n2) (b := .int .u64 a2) (c := .int .u64 b2) (d := .int .i64 t) V (by simp)
          obtain ⟨g4, p40, p41, p42, p43⟩ := HB.dec (t := 25) (g := w3.heap.size + 1) (a := .bool n3) (b := .int .u64 a3) (c := .int .u64 b3) (d := .int .i64 s) V (by simp)
          obtain ⟨g3, p30, p31, p32, p33⟩ := HB.dec (t := 25) (g := w3.heap.size) (a := .bool n9) (b := .int .u64 a9) (c := .int .u64 b9) (d := .int .i64 s) V (by simp)
          obtain ⟨g5, p50, p51, p52, p53⟩ := HB.dec (t := 25) (g := w6.heap.size) (a := .bool n5) (b := .int .u64 a5) (c := .int .u64 b5) (d := .int .i64 s) V (by simp)
          obtain ⟨g6, p60, p61, p62, p63⟩ := HB.dec (t := 25) (g := w7.heap.size) (a := .bool n6) (b := .int .u64 a6) (c := .int .u64 b6) (d := .int .i64 t) V (by simp)
          replace V := V.push #[.bool n2, .int .u64 a2, .int .u64 b2, .int .i64 t] 25
          go_wp2_with fail
          refine (quant_q n2 a2 b2 t y s 4 _ D2 (sm_30 Hy.out) lt0 t9 ls s9 (by decide) (y.natAbs * Q) (by rw [quantN_up n2 ts, HQ.out]) (by have h := HYQ.out; unfold Sm at h; rw [Int.natAbs_mul, Int.natAbs_natCast] at h; omega)).mono ?_
          rintro e wd ⟨_, ⟨n8, a8, b8, D8, rfl⟩, rfl, hb⟩
          rw [← zOf_mul, zOf_self D2] at D8
          replace V := V.below hb
          clear hb
          clear g1 p10 p11 p12 p13 g2 p20 p21 p22 p23 g4 p40 p41 p42 p43 g3 p30 p31 p32 p33 g5 p50 p51 p52 p53 g6 p60 p61 p62 p63
          obtain ⟨g1, p10, p11, p12, p13⟩ := HB.dec (t := 25) (g := w1.heap.size) (a := .bool n1) (b := .int .u64 a1) (c := .int .u64 b1) (d := .int .i64 s) V (by simp)
          obtain ⟨g2, p20, p21, p22, p23⟩ := HB.dec (t := 25) (g := w2.heap.size) (a := .bool n2) (b := .int .u64 a2) (c := .int .u64 b2) (d := .int .i64 t) V (by simp)
          obtain ⟨g4, p40, p41, p42, p43⟩ := HB.dec (t := 25) (g := w3.heap.size + 1) (a := .bool n3) (b := .int .u64 a3) (c := .int .u64 b3) (d := .int .i64 s) V (by simp)
          obtain ⟨g3, p30, p31, p32, p33⟩ := HB.dec (t := 25) (g := w3.heap.size) (a := .bool n9) (b := .int .u64 a9) (c := .int .u64 b9) (d := .int .i64 s) V (by simp)
          obtain ⟨g5, p50, p51, p52, p53⟩ := HB.dec (t := 25) (g := w6.heap.size) (a := .bool n5) (b := .int .u64 a5) (c := .int .u64 b5) (d := .int .i64 s) V (by simp)
          obtain ⟨g6, p60, p61, p62, p63⟩ := HB.dec (t := 25) (g := w7.heap.size) (a := .bool n6) (b := .int .u64 a6) (c := .int .u64 b6) (d := .int .i64 t) V (by simp)
          obtain ⟨g7, p70, p71, p72, p73⟩ := HB.dec (t := 25) (g := wc.heap.size) (a := .bool n2) (b := .int .u64 a2) (c := .int .u64 b2) (d := .int .i64 t) V (by simp)
          replace V := V.push #[.bool n8, .int .u64 a8, .int .u64 b8, .int .i64 s] 25
          have q2 := eqW2_yes (a := a2) (b := b2) (c := a2) (d := b2) ⟨rfl, rfl⟩
          go_wp2_with fail
          refine (cmp_v n8 a8 b8 s (y * (Q : Int)) n2 a2 b2 t y s 0 _ D8 D2 HYQ.out Hy.out ls lt0 s9 t9 (Or.inr ⟨ts, rfl⟩) HCD.out).mono ?_
          rintro e we ⟨_, rfl, rfl, hb⟩
          replace V := V.below hb
          clear hb
          clear g1 p10 p11 p12 p13 g2 p20 p21 p22 p23 g4 p40 p41 p42 p43 g3 p30 p31 p32 p33 g5 p50 p51 p52 p53 g6 p60 p61 p62 p63 g7 p70 p71 p72 p73
          have HB1 := Lib.hid V.1
          clear V
          go_wp2
          go_ret
          exact ⟨rfl, HB1.out⟩
      · as_aux_lemma =>
          have hsg : δ.sign = 0 := by rw [hd]; rfl
          have HS := Lib.hid hsg
          go_wp2_with fail
          refine (sign_v n3 a3 b3 s δ (0) _ D3 (sm_30 Hδ.out) ls s9 HS.out).mono ?_
          rintro e w4 ⟨_, rfl, rfl, hb⟩
          replace V := V.below hb
          clear hb
          clear g1 p10 p11 p12 p13 g2 p20 p21 p22 p23
          have Hd := Lib.hid hd
          clear hsg hd
          obtain ⟨g1, p10, p11, p12, p13⟩ := HB.dec (t := 25) (g := w1.heap.size) (a := .bool n1) (b := .int .u64 a1) (c := .int .u64 b1) (d := .int .i64 s) V (by simp)
          obtain ⟨g2, p20, p21, p22, p23⟩ := HB.dec (t := 25) (g := w2.heap.size) (a := .bool n2) (b := .int .u64 a2) (c := .int .u64 b2) (d := .int .i64 t) V (by simp)
          obtain ⟨g3, p30, p31, p32, p33⟩ := HB.dec (t := 25) (g := w3.heap.size) (a := .bool n3) (b := .int .u64 a3) (c := .int .u64 b3) (d := .int .i64 s) V (by simp)
          obtain ⟨g4, p40, p41, p42, p43⟩ := HB.dec (t := 25) (g := w3.heap.size + 1) (a := .bool n3) (b := .int .u64 a3) (c := .int .u64 b3) (d := .int .i64 s) V (by simp)
          have e9 : ((δ.natAbs : Nat) : Int) = δ := by have := Hd.out; omega
          have D3e : DecIs n3 a3 b3 ((δ.natAbs : Nat) : Int) := by rw [e9]; exact D3
          clear e9
          go_wp2_with fail
          refine (add_d n3 a3 b3 s ((δ.natAbs : Nat) : Int) n3 a3 b3 s ((δ.natAbs : Nat) : Int) s _ D3e D3e HE.out HE.out ls ls s9 s9 (Or.inr ⟨Int.le_refl _, rfl⟩)).mono ?_
          rintro e w6 ⟨_, ⟨n5, a5, b5, D5, rfl⟩, rfl, hb⟩
          rw [zAt_self] at D5
          replace V := V.below hb
          clear hb
          clear g1 p10 p11 p12 p13 g2 p20 p21 p22 p23 g3 p30 p31 p32 p33 g4 p40 p41 p42 p43
          obtain ⟨g1, p10, p11, p12, p13⟩ := HB.dec (t := 25) (g := w1.heap.size) (a := .bool n1) (b := .int .u64 a1) (c := .int .u64 b1) (d := .int .i64 s) V (by simp)
          obtain ⟨g2, p20, p21, p22, p23⟩ := HB.dec (t := 25) (g := w2.heap.size) (a := .bool n2) (b := .int .u64 a2) (c := .int .u64 b2) (d := .int .i64 t) V (by simp)
          obtain ⟨g3, p30, p31, p32, p33⟩ := HB.dec (t := 25) (g := w3.heap.size) (a := .bool n3) (b := .int .u64 a3) (c := .int .u64 b3) (d := .int .i64 s) V (by simp)
          obtain ⟨g4, p40, p41, p42, p43⟩ := HB.dec (t := 25) (g := w3.heap.size + 1) (a := .bool n3) (b := .int .u64 a3) (c := .int .u64 b3) (d := .int .i64 s) V (by simp)
          replace V := V.push #[.bool n5, .int .u64 a5, .int .u64 b5, .int .i64 s] 25
          go_wp2_with fail
          refine (refOf_c 1 t _ (by decide) (by decide) lt0 t9).mono ?_
          rintro e w7 ⟨_, ⟨n6, a6, b6, D6, rfl⟩, rfl, hb⟩
          replace V := V.below hb
          clear hb
          clear g1 p10 p11 p12 p13 g2 p20 p21 p22 p23 g3 p30 p31 p32 p33 g4 p40 p41 p42 p43
          obtain ⟨g1, p10, p11, p12, p13⟩ := HB.dec (t := 25) (g := w1.heap.size) (a := .bool n1) (b := .int .u64 a1) (c := .int .u64 b1) (d := .int .i64 s) V (by simp)
          obtain ⟨g2, p20, p21, p22, p23⟩ := HB.dec (t := 25) (g := w2.heap.size) (a := .bool n2) (b := .int .u64 a2) (c := .int .u64 b2) (d := .int .i64 t) V (by simp)
          obtain ⟨g3, p30, p31, p32, p33⟩ := HB.dec (t := 25) (g := w3.heap.size) (a := .bool n3) (b := .int .u64 a3) (c := .int .u64 b3) (d := .int .i64 s) V (by simp)
          obtain ⟨g4, p40, p41, p42, p43⟩ := HB.dec (t := 25) (g := w3.heap.size + 1) (a := .bool n3) (b := .int .u64 a3) (c := .int .u64 b3) (d := .int .i64 s) V (by simp)
          obtain ⟨g5, p50, p51, p52, p53⟩ := HB.dec (t := 25) (g := w6.heap.size) (a := .bool n5) (b := .int .u64 a5) (c := .int .u64 b5) (d := .int .i64 s) V (by simp)
          replace V := V.push #[.bool n6, .int .u64 a6, .int .u64 b6, .int .i64 t] 25
          go_wp2_with fail
          refine (qk_c _).mono ?_
          rintro e w8 ⟨_, rfl, rfl, hb⟩
          replace V := V.below hb
          clear hb
          clear g1 p10 p11 p12 p13 g2 p20 p21 p22 p23 g3 p30 p31 p32 p33 g4 p40 p41 p42 p43 g5 p50 p51 p52 p53
          obtain ⟨g1, p10, p11, p12, p13⟩ := HB.dec (t := 25) (g := w1.heap.size) (a := .bool n1) (b := .int .u64 a1) (c := .int .u64 b1) (d := .int .i64 s) V (by simp)
          obtain ⟨g2, p20, p21, p22, p23⟩ := HB.dec (t := 25) (g := w2.heap.size) (a := .bool n2) (b := .int .u64 a2) (c := .int .u64 b2) (d := .int .i64 t) V (by simp)
          obtain ⟨g3, p30, p31, p32, p33⟩ := HB.dec (t := 25) (g := w3.heap.size) (a := .bool n3) (b := .int .u64 a3) (c := .int .u64 b3) (d := .int .i64 s) V (by simp)
          obtain ⟨g4, p40, p41, p42, p43⟩ := HB.dec (t := 25) (g := w3.heap.size + 1) (a := .bool n3) (b := .int .u64 a3) (c := .int .u64 b3) (d := .int .i64 s) V (by simp)
          obtain ⟨g5, p50, p51, p52, p53⟩ := HB.dec (t := 25) (g := w6.heap.size) (a := .bool n5) (b := .int .u64 a5) (c := .int .u64 b5) (d := .int .i64 s) V (by simp)
          obtain ⟨g6, p60, p61, p62, p63⟩ := HB.dec (t := 25) (g := w7.heap.size) (a := .bool n6) (b := .int .u64 a6) (c := .int .u64 b6) (d := .int .i64 t) V (by simp)
          go_wp2_with fail
          refine (cmp_v n3 a3 b3 s ((δ.natAbs : Nat) : Int) n6 a6 b6 t 1 s (-1) _ D3e D6 HE.out H1.out ls lt0 s9 t9 (Or.inr ⟨ts, rfl⟩) HC1.out).mono ?_
          rintro e w9 ⟨_, rfl, rfl, hb⟩
          replace V := V.below hb
          clear hb
          clear g1 p10 p11 p12 p13 g2 p20 p21 p22 p23 g3 p30 p31 p32 p33 g4 p40 p41 p42 p43 g5 p50 p51 p52 p53 g6 p60 p61 p62 p63
          obtain ⟨g1, p10, p11, p12, p13⟩ := HB.dec (t := 25) (g := w1.heap.size) (a := .bool n1) (b := .int .u64 a1) (c := .int .u64 b1) (d := .int .i64 s) V (by simp)
          obtain ⟨g2, p20, p21, p22, p23⟩ := HB.dec (t := 25) (g := w2.heap.size) (a := .bool n2) (b := .int .u64 a2) (c := .int .u64 b2) (d := .int .i64 t) V (by simp)
          obtain ⟨g3, p30, p31, p32, p33⟩ := HB.dec (t := 25) (g := w3.heap.size) (a := .bool n3) (b := .int .u64 a3) (c := .int .u64 b3) (d := .int .i64 s) V (by simp)
          obtain ⟨g4, p40, p41, p42, p43⟩ := HB.dec (t := 25) (g := w3.heap.size + 1) (a := .bool n3) (b := .int .u64 a3) (c := .int .u64 b3) (d := .int .i64 s) V (by simp)
          obtain ⟨g5, p50, p51, p52, p53⟩ := HB.dec (t := 25) (g := w6.heap.size) (a := .bool n5) (b := .int .u64 a5) (c := .int .u64 b5) (d := .int .i64 s) V (by simp)
          obtain ⟨g6, p60, p61, p62, p63⟩ := HB.dec (t := 25) (g := w7.heap.size) (a := .bool n6) (b := .int .u64 a6) (c := .int .u64 b6) (d := .int .i64 t) V (by simp)
          have hc20 := HFm.out
          go_wp2_with fail
          refine (cmp_v n5 a5 b5 s (((δ.natAbs : Nat) : Int) + ((δ.natAbs : Nat) : Int)) n6 a6 b6 t 1 s c2 _ D5 D6 H2E.out H1.out ls lt0 s9 t9 (Or.inr ⟨ts, rfl⟩) HC2.out).mono ?_
          rintro e wa ⟨_, rfl, rfl, hb⟩
          replace V := V.below hb
          clear hb
          clear g1 p10 p11 p12 p13 g2 p20 p21 p22 p23 g3 p30 p31 p32 p33 g4 p40 p41 p42 p43 g5 p50 p51 p52 p53 g6 p60 p61 p62 p63
          obtain ⟨g1, p10, p11, p12, p13⟩ := HB.dec (t := 25) (g := w1.heap.size) (a := .bool n1) (b := .int .u64 a1) (c := .int .u64 b1) (d := .int .i64 s) V (by simp)
          obtain ⟨g2, p20, p21, p22, p23⟩ := HB.dec (t := 25) (g := w2.heap.size) (a := .bool n2) (b := .int .u64 a2) (c := .int .u64 b2) (d := .int .i64 t) V (by simp)
          obtain ⟨g3, p30, p31, p32, p33⟩ := HB.dec (t := 25) (g := w3.heap.size) (a := .bool n3) (b := .int .u64 a3) (c := .int .u64 b3) (d := .int .i64 s) V (by simp)
          obtain ⟨g4, p40, p41, p42, p43⟩ := HB.dec (t := 25) (g := w3.heap.size + 1) (a := .bool n3) (b := .int .u64 a3) (c := .int .u64 b3) (d := .int .i64 s) V (by simp)
          obtain ⟨g5, p50, p51, p52, p53⟩ := HB.dec (t := 25) (g := w6.heap.size) (a := .bool n5) (b := .int .u64 a5) (c := .int .u64 b5) (d := .int .i64 s) V (by simp)
          obtain ⟨g6, p60, p61, p62, p63⟩ := HB.dec (t := 25) (g := w7.heap.size) (a := .bool n6) (b := .int .u64 a6) (c := .int .u64 b6) (d := .int .i64 t) V (by simp)
          go_wp2_with fail
          refine (quant_v n2 a2 b2 t y t 4 n2 a2 b2 y _ D2 D2 (sm_30 Hy.out) lt0 t9 lt0 t9 (by decide) N (by rw [quantN_up n2 (Int.le_refl t), Int.sub_self]; simpa using HYN.out) (by have := HNb.out; omega) (by rw [← HYN.out]; exact zOf_self D2)).mono ?_
          rintro e wc ⟨_, rfl, rfl, hb⟩
          replace V := V.below hb
          clear hb
          clear g1 p10 p11 p12 p13 g2 p20 p21 p22 p23 g3 p30 p31 p32 p33 g4 p40 p41 p42 p43 g5 p50 p51 p52 p53 g6 p60 p61 p62 p63
          obtain ⟨g1, p10, p11, p12, p13⟩ := HB.dec (t := 25) (g := w1.heap.size) (a := .bool n1) (b := .int .u64 a1) (c := .int .u64 b1) (d := .int .i64 s) V (by simp)
          obtain ⟨g2, p20, p21, p22, p23⟩ := HB.dec (t := 25) (g := w2.heap.size) (a := .bool n2) (b := .int .u64 a2) (c := .int .u64 b2) (d := .int .i64 t) V (by simp)
          obtain ⟨g3, p30, p31, p32, p33⟩ := HB.dec (t := 25) (g := w3.heap.size) (a := .bool n3) (b := .int .u64 a3) (c := .int .u64 b3) (d := .int .i64 s) V (by simp)
          obtain ⟨g4, p40, p41, p42, p43⟩ := HB.dec (t := 25) (g := w3.heap.size + 1) (a := .bool n3) (b := .int .u64 a3) (c := .int .u64 b3) (d := .int .i64 s) V (by simp)
          obtain ⟨g5, p50, p51, p52, p53⟩ := HB.dec (t := 25) (g := w6.heap.size) (a := .bool n5) (b := .int .u64 a5) (c := .int .u64 b5) (d := .int .i64 s) V (by simp)
          obtain ⟨g6, p60, p61, p62, p63⟩ := HB.dec (t := 25) (g := w7.heap.size) (a := .bool n6) (b := .int .u64 a6) (c := .int .u64 b6) (d := .int .i64 t) V (by simp)
          replace V := V.push #[.bool n2, .int .u64 a2, .int .u64 b2, .int .i64 t] 25
          go_wp2_with fail
          refine (quant_q n2 a2 b2 t y s 4 _ D2 (sm_30 Hy.out) lt0 t9 ls s9 (by decide) (y.natAbs * Q) (by rw [quantN_up n2 ts, HQ.out]) (by have h := HYQ.out; unfold Sm at h; rw [Int.natAbs_mul, Int.natAbs_natCast] at h; omega)).mono ?_
          rintro e wd ⟨_, ⟨n8, a8, b8, D8, rfl⟩, rfl, hb⟩
          rw [← zOf_mul, zOf_self D2] at D8
          replace V := V.below hb
          clear hb
          clear g1 p10 p11 p12 p13 g2 p20 p21 p22 p23 g3 p30 p31 p32 p33 g4 p40 p41 p42 p43 g5 p50 p51 p52 p53 g6 p60 p61 p62 p63
          obtain ⟨g1, p10, p11, p12, p13⟩ := HB.dec (t := 25) (g := w1.heap.size) (a := .bool n1) (b := .int .u64 a1) (c := .int .u64 b1) (d := .int .i64 s) V (by simp)
          obtain ⟨g2, p20, p21, p22, p23⟩ := HB.dec (t := 25) (g := w2.heap.size) (a := .bool n2) (b := .int .u64 a2) (c := .int .u64 b2) (d := .int .i64 t) V (by simp)
          obtain ⟨g3, p30, p31, p32, p33⟩ := HB.dec (t := 25) (g := w3.heap.size) (a := .bool n3) (b := .int .u64 a3) (c := .int .u64 b3) (d := .int .i64 s) V (by simp)
          obtain ⟨g4, p40, p41, p42, p43⟩ := HB.dec (t := 25) (g := w3.heap.size + 1) (a := .bool n3) (b := .int .u64 a3) (c := .int .u64 b3) (d := .int .i64 s) V (by simp)
          obtain ⟨g5, p50, p51, p52, p53⟩ := HB.dec (t := 25) (g := w6.heap.size) (a := .bool n5) (b := .int .u64 a5) (c := .int .u64 b5) (d := .int .i64 s) V (by simp)
          obtain ⟨g6, p60, p61, p62, p63⟩ := HB.dec (t := 25) (g := w7.heap.size) (a := .bool n6) (b := .int .u64 a6) (c := .int .u64 b6) (d := .int .i64 t) V (by simp)
          obtain ⟨g7, p70, p71, p72, p73⟩ := HB.dec (t := 25) (g := wc.heap.size) (a := .bool n2) (b := .int .u64 a2) (c := .int .u64 b2) (d := .int .i64 t) V (by simp)
          replace V := V.push #[.bool n8, .int .u64 a8, .int .u64 b8, .int .i64 s] 25
          have q2 := eqW2_yes (a := a2) (b := b2) (c := a2) (d := b2) ⟨rfl, rfl⟩
          go_wp2_with fail
          refine (cmp_v n8 a8 b8 s (y * (Q : Int)) n2 a2 b2 t y s 0 _ D8 D2 HYQ.out Hy.out ls lt0 s9 t9 (Or.inr ⟨ts, rfl⟩) HCD.out).mono ?_
          rintro e we ⟨_, rfl, rfl, hb⟩
          replace V := V.below hb
          clear hb
          clear g1 p10 p11 p12 p13 g2 p20 p21 p22 p23 g3 p30 p31 p32 p33 g4 p40 p41 p42 p43 g5 p50 p51 p52 p53 g6 p60 p61 p62 p63 g7 p70 p71 p72 p73
          have HB1 := Lib.hid V.1
          clear V
          go_wp2
          go_ret
          exact ⟨rfl, HB1.out⟩
      · as_aux_lemma =>
          have hsg : δ.sign = 1 := Int.sign_eq_one_of_pos hd
          have HS := Lib.hid hsg
          go_wp2_with fail
          refine (sign_v n3 a3 b3 s δ (1) _ D3 (sm_30 Hδ.out) ls s9 HS.out).mono ?_
          rintro e w4 ⟨_, rfl, rfl, hb⟩
          replace V := V.below hb
          clear hb
          clear g1 p10 p11 p12 p13 g2 p20 p21 p22 p23
          have Hd := Lib.hid hd
          clear hsg hd
          obtain ⟨g1, p10, p11, p12, p13⟩ := HB.dec (t := 25) (g := w1.heap.size) (a := .bool n1) (b := .int .u64 a1) (c := .int .u64 b1) (d := .int .i64 s) V (by simp)
          obtain ⟨g2, p20, p21, p22, p23⟩ := HB.dec (t := 25) (g := w2.heap.size) (a := .bool n2) (b := .int .u64 a2) (c := .int .u64 b2) (d := .int .i64 t) V (by simp)
          obtain ⟨g3, p30, p31, p32, p33⟩ := HB.dec (t := 25) (g := w3.heap.size) (a := .bool n3) (b := .int .u64 a3) (c := .int .u64 b3) (d := .int .i64 s) V (by simp)
          obtain ⟨g4, p40, p41, p42, p43⟩ := HB.dec (t := 25) (g := w3.heap.size + 1) (a := .bool n3) (b := .int .u64 a3) (c := .int .u64 b3) (d := .int .i64 s) V (by simp)
          have e9 : ((δ.natAbs : Nat) : Int) = δ := by have := Hd.out; omega
          have D3e : DecIs n3 a3 b3 ((δ.natAbs : Nat) : Int) := by rw [e9]; exact D3
          clear e9
          go_wp2_with fail
          refine (add_d n3 a3 b3 s ((δ.natAbs : Nat) : Int) n3 a3 b3 s ((δ.natAbs : Nat) : Int) s _ D3e D3e HE.out HE.out ls ls s9 s9 (Or.inr ⟨Int.le_refl _, rfl⟩)).mono ?_
          rintro e w6 ⟨_, ⟨n5, a5, b5, D5, rfl⟩, rfl, hb⟩
          rw [zAt_self] at D5
          replace V := V.below hb
          clear hb
          clear g1 p10 p11 p12 p13 g2 p20 p21 p22 p23 g3 p30 p31 p32 p33 g4 p40 p41 p42 p43
          obtain ⟨g1, p10, p11, p12, p13⟩ := HB.dec (t := 25) (g := w1.heap.size) (a := .bool n1) (b := .int .u64 a1) (c := .int .u64 b1) (d := .int .i64 s) V (by simp)
          obtain ⟨g2, p20, p21, p22, p23⟩ := HB.dec (t := 25) (g := w2.heap.size) (a := .bool n2) (b := .int .u64 a2) (c := .int .u64 b2) (d := .int .i64 t) V (by simp)
          obtain ⟨g3, p30, p31, p32, p33⟩ := HB.dec (t := 25) (g := w3.heap.size) (a := .bool n3) (b := .int .u64 a3) (c := .int .u64 b3) (d := .int .i64 s) V (by simp)
          obtain ⟨g4, p40, p41, p42, p43⟩ := HB.dec (t := 25) (g := w3.heap.size + 1) (a := .bool n3) (b := .int .u64 a3) (c := .int .u64 b3) (d := .int .i64 s) V (by simp)
          replace V := V.push #[.bool n5, .int .u64 a5, .int .u64 b5, .int .i64 s] 25
          go_wp2_with fail
          refine (refOf_c 1 t _ (by decide) (by decide) lt0 t9).mono ?_
          rintro e w7 ⟨_, ⟨n6, a6, b6, D6, rfl⟩, rfl, hb⟩
          replace V := V.below hb
          clear hb
          clear g1 p10 p11 p12 p13 g2 p20 p21 p22 p23 g3 p30 p31 p32 p33 g4 p40 p41 p42 p43
          obtain ⟨g1, p10, p11, p12, p13⟩ := HB.dec (t := 25) (g := w1.heap.size) (a := .bool n1) (b := .int .u64 a1) (c := .int .u64 b1) (d := .int .i64 s) V (by simp)
          obtain ⟨g2, p20, p21, p22, p23⟩ := HB.dec (t := 25) (g := w2.heap.size) (a := .bool n2) (b := .int .u64 a2) (c := .int .u64 b2) (d := .int .i64 t) V (by simp)
          obtain ⟨g3, p30, p31, p32, p33⟩ := HB.dec (t := 25) (g := w3.heap.size) (a := .bool n3) (b := .int .u64 a3) (c := .int .u64 b3) (d := .int .i64 s) V (by simp)
          obtain ⟨g4, p40, p41, p42, p43⟩ := HB.dec (t := 25) (g := w3.heap.size + 1) (a := .bool n3) (b := .int .u64 a3) (c := .int .u64 b3) (d := .int .i64 s) V (by simp)
          obtain ⟨g5, p50, p51, p52, p53⟩ := HB.dec (t := 25) (g := w6.heap.size) (a := .bool n5) (b := .int .u64 a5) (c := .int .u64 b5) (d := .int .i64 s) V (by simp)
          replace V := V.push #[.bool n6, .int .u64 a6, .int .u64 b6, .int .i64 t] 25
          go_wp2_with fail
          refine (qk_c _).mono ?_
          rintro e w8 ⟨_, rfl, rfl, hb⟩
          replace V := V.below hb
          clear hb
          clear g1 p10 p11 p12 p13 g2 p20 p21 p22 p23 g3 p30 p31 p32 p33 g4 p40 p41 p42 p43 g5 p50 p51 p52 p53
          obtain ⟨g1, p10, p11, p12, p13⟩ := HB.dec (t := 25) (g := w1.heap.size) (a := .bool n1) (b := .int .u64 a1) (c := .int .u64 b1) (d := .int .i64 s) V (by simp)
          obtain ⟨g2, p20, p21, p22, p23⟩ := HB.dec (t := 25) (g := w2.heap.size) (a := .bool n2) (b := .int .u64 a2) (c := .int .u64 b2) (d := .int .i64 t) V (by simp)
          obtain ⟨g3, p30, p31, p32, p33⟩ := HB.dec (t := 25) (g := w3.heap.size) (a := .bool n3) (b := .int .u64 a3) (c := .int .u64 b3) (d := .int .i64 s) V (by simp)
          obtain ⟨g4, p40, p41, p42, p43⟩ := HB.dec (t := 25) (g := w3.heap.size + 1) (a := .bool n3) (b := .int .u64 a3) (c := .int .u64 b3) (d := .int .i64 s) V (by simp)
          obtain ⟨g5, p50, p51, p52, p53⟩ := HB.dec (t := 25) (g := w6.heap.size) (a := .bool n5) (b := .int .u64 a5) (c := .int .u64 b5) (d := .int .i64 s) V (by simp)
          obtain ⟨g6, p60, p61, p62, p63⟩ := HB.dec (t := 25) (g := w7.heap.size) (a := .bool n6) (b := .int .u64 a6) (c := .int .u64 b6) (d := .int .i64 t) V (by simp)
          go_wp2_with fail
          refine (cmp_v n3 a3 b3 s ((δ.natAbs : Nat) : Int) n6 a6 b6 t 1 s (-1) _ D3e D6 HE.out H1.out ls lt0 s9 t9 (Or.inr ⟨ts, rfl⟩) HC1.out).mono ?_
          rintro e w9 ⟨_, rfl, rfl, hb⟩
          replace V := V.below hb
          clear hb
          clear g1 p10 p11 p12 p13 g2 p20 p21 p22 p23 g3 p30 p31 p32 p33 g4 p40 p41 p42 p43 g5 p50 p51 p52 p53 g6 p60 p61 p62 p63
          obtain ⟨g1, p10, p11, p12, p13⟩ := HB.dec (t := 25) (g := w1.heap.size) (a := .bool n1) (b := .int .u64 a1) (c := .int .u64 b1) (d := .int .i64 s) V (by simp)
          obtain ⟨g2, p20, p21, p22, p23⟩ := HB.dec (t := 25) (g := w2.heap.size) (a := .bool n2) (b := .int .u64 a2) (c := .int .u64 b2) (d := .int .i64 t) V (by simp)
          obtain ⟨g3, p30, p31, p32, p33⟩ := HB.dec (t := 25) (g := w3.heap.size) (a := .bool n3) (b := .int .u64 a3) (c := .int .u64 b3) (d := .int .i64 s) V (by simp)
          obtain ⟨g4, p40, p41, p42, p43⟩ := HB.dec (t := 25) (g := w3.heap.size + 1) (a := .bool n3) (b := .int .u64 a3) (c := .int .u64 b3) (d := .int .i64 s) V (by simp)
          obtain ⟨g5, p50, p51, p52, p53⟩ := HB.dec (t := 25) (g := w6.heap.size) (a := .bool n5) (b := .int .u64 a5) (c := .int .u64 b5) (d := .int .i64 s) V (by simp)
          obtain ⟨g6, p60, p61, p62, p63⟩ := HB.dec (t := 25) (g := w7.heap.size) (a := .bool n6) (b := .int .u64 a6) (c := .int .u64 b6) (d := .int .i64 t) V (by simp)
          have hc20 := HFm.out
          go_wp2_with fail
          refine (cmp_v n5 a5 b5 s (((δ.natAbs : Nat) : Int) + ((δ.natAbs : Nat) : Int)) n6 a6 b6 t 1 s c2 _ D5 D6 H2E.out H1.out ls lt0 s9 t9 (Or.inr ⟨ts, rfl⟩) HC2.out).mono ?_
          rintro e wa ⟨_, rfl, rfl, hb⟩
          replace V := V.below hb
          clear hb
          clear g1 p10 p11 p12 p13 g2 p20 p21 p22 p23 g3 p30 p31 p32 p33 g4 p40 p41 p42 p43 g5 p50 p51 p52 p53 g6 p60 p61 p62 p63
          obtain ⟨g1, p10, p11, p12, p13⟩ := HB.dec (t := 25) (g := w1.heap.size) (a := .bool n1) (b := .int .u64 a1) (c := .int .u64 b1) (d := .int .i64 s) V (by simp)
          obtain ⟨g2, p20, p21, p22, p23⟩ := HB.dec (t := 25) (g := w2.heap.size) (a := .bool n2) (b := .int .u64 a2) (c := .int .u64 b2) (d := .int .i64 t) V (by simp)
          obtain ⟨g3, p30, p31, p32, p33⟩ := HB.dec (t := 25) (g := w3.heap.size) (a := .bool n3) (b := .int .u64 a3) (c := .int .u64 b3) (d := .int .i64 s) V (by simp)
          obtain ⟨g4, p40, p41, p42, p43⟩ := HB.dec (t := 25) (g := w3.heap.size + 1) (a := .bool n3) (b := .int .u64 a3) (c := .int .u64 b3) (d := .int .i64 s) V (by simp)
          obtain ⟨g5, p50, p51, p52, p53⟩ := HB.dec (t := 25) (g := w6.heap.size) (a := .bool n5) (b := .int .u64 a5) (c := .int .u64 b5) (d := .int .i64 s) V (by simp)
          obtain ⟨g6, p60, p61, p62, p63⟩ := HB.dec (t := 25) (g := w7.heap.size) (a := .bool n6) (b := .int .u64 a6) (c := .int .u64 b6) (d := .int .i64 t) V (by simp)
          go_wp2_with fail
          refine (quant_v n2 a2 b2 t y t 4 n2 a2 b2 y _ D2 D2 (sm_30 Hy.out) lt0 t9 lt0 t9 (by decide) N (by rw [quantN_up n2 (Int.le_refl t), Int.sub_self]; simpa using HYN.out) (by have := HNb.out; omega) (by rw [← HYN.out]; exact zOf_self D2)).mono ?_
          rintro e wc ⟨_, rfl, rfl, hb⟩
          replace V := V.below hb
          clear hb
          clear g1 p10 p11 p12 p13 g2 p20 p21 p22 p23 g3 p30 p31 p32 p33 g4 p40 p41 p42 p43 g5 p50 p51 p52 p53 g6 p60 p61 p62 p63
          obtain ⟨g1, p10, p11, p12, p13⟩ := HB.dec (t := 25) (g := w1.heap.size) (a := .bool n1) (b := .int .u64 a1) (c := .int .u64 b1) (d := .int .i64 s) V (by simp)
          obtain ⟨g2, p20, p21, p22, p23⟩ := HB.dec (t := 25) (g := w2.heap.size) (a := .bool n2) (b := .int .u64 a2) (c := .int .u64 b2) (d := .int .i64 t) V (by simp)
          obtain ⟨g3, p30, p31, p32, p33⟩ := HB.dec (t := 25) (g := w3.heap.size) (a := .bool n3) (b := .int .u64 a3) (c := .int .u64 b3) (d := .int .i64 s) V (by simp)
          obtain ⟨g4, p40, p41, p42, p43⟩ := HB.dec (t := 25) (g := w3.heap.size + 1) (a := .bool n3) (b := .int .u64 a3) (c := .int .u64 b3) (d := .int .i64 s) V (by simp)
          obtain ⟨g5, p50, p51, p52, p53⟩ := HB.dec (t := 25) (g := w6.heap.size) (a := .bool n5) (b := .int .u64 a5) (c := .int .u64 b5) (d := .int .i64 s) V (by simp)
          obtain ⟨g6, p60, p61, p62, p63⟩ := HB.dec (t := 25) (g := w7.heap.size) (a := .bool n6) (b := .int .u64 a6) (c := .int .u64 b6) (d := .int .i64 t) V (by simp)
          replace V := V.push #[.bool n2, .int .u64 a2, .int .u64 b2, .int .i64 t] 25
          go_wp2_with fail
          refine (quant_q n2 a2 b2 t y s 4 _ D2 (sm_30 Hy.out) lt0 t9 ls s9 (by decide) (y.natAbs * Q) (by rw [quantN_up n2 ts, HQ.out]) (by have h := HYQ.out; unfold Sm at h; rw [Int.natAbs_mul, Int.natAbs_natCast] at h; omega)).mono ?_
          rintro e wd ⟨_, ⟨n8, a8, b8, D8, rfl⟩, rfl, hb⟩
          rw [← zOf_mul, zOf_self D2] at D8
          replace V := V.below hb
          clear hb
          clear g1 p10 p11 p12 p13 g2 p20 p21 p22 p23 g3 p30 p31 p32 p33 g4 p40 p41 p42 p43 g5 p50 p51 p52 p53 g6 p60 p61 p62 p63
          obtain ⟨g1, p10, p11, p12, p13⟩ := HB.dec (t := 25) (g := w1.heap.size) (a := .bool n1) (b := .int .u64 a1) (c := .int .u64 b1) (d := .int .i64 s) V (by simp)
          obtain ⟨g2, p20, p21, p22, p23⟩ := HB.dec (t := 25) (g := w2.heap.size) (a := .bool n2) (b := .int .u64 a2) (c := .int .u64 b2) (d := .int .i64 t) V (by simp)
          obtain ⟨g3, p30, p31, p32, p33⟩ := HB.dec (t := 25) (g := w3.heap.size) (a := .bool n3) (b := .int .u64 a3) (c := .int .u64 b3) (d := .int .i64 s) V (by simp)
          obtain ⟨g4, p40, p41, p42, p43⟩ := HB.dec (t := 25) (g := w3.heap.size + 1) (a := .bool n3) (b := .int .u64 a3) (c := .int .u64 b3) (d := .int .i64 s) V (by simp)
          obtain ⟨g5, p50, p51, p52, p53⟩ := HB.dec (t := 25) (g := w6.heap.size) (a := .bool n5) (b := .int .u64 a5) (c := .int .u64 b5) (d := .int .i64 s) V (by simp)
          obtain ⟨g6, p60, p61, p62, p63⟩ := HB.dec (t := 25) (g := w7.heap.size) (a := .bool n6) (b := .int .u64 a6) (c := .int .u64 b6) (d := .int .i64 t) V (by simp)
          obtain ⟨g7, p70, p71, p72, p73⟩ := HB.dec (t := 25) (g := wc.heap.size) (a := .bool n2) (b := .int .u64 a2) (c := .int .u64 b2) (d := .int .i64 t) V (by simp)
          replace V := V.push #[.bool n8, .int .u64 a8, .int .u64 b8, .int .i64 s] 25
          have q2 := eqW2_yes (a := a2) (b := b2) (c := a2) (d := b2) ⟨rfl, rfl⟩
          go_wp2_with fail
          refine (cmp_v n8 a8 b8 s (y * (Q : Int)) n2 a2 b2 t y s 0 _ D8 D2 HYQ.out Hy.out ls lt0 s9 t9 (Or.inr ⟨ts, rfl⟩) HCD.out).mono ?_
          rintro e we ⟨_, rfl, rfl, hb⟩
          replace V := V.below hb
          clear hb
          clear g1 p10 p11 p12 p13 g2 p20 p21 p22 p23 g3 p30 p31 p32 p33 g4 p40 p41 p42 p43 g5 p50 p51 p52 p53 g6 p60 p61 p62 p63 g7 p70 p71 p72 p73
          have HB1 := Lib.hid V.1
          clear V
          go_wp2
          go_ret
          exact ⟨rfl, HB1.out⟩

set_option maxRecDepth 100000 in
theorem lifted (os : Os) (started : os.Started) (H : Type) (enc : TypeId × Value → H) :
    ReturnsInHanded {} Try.checked os 4 .any (Rows.quantNearSpec.pre6 enc Try.prog Try.f4 Rows.quantNearRow.domain false) (Rows.quantNearSpec.post enc Try.prog Try.f4 false true false false) := by
  refine returnsInHanded_of_change (C := Try.checked) own started (by kernel_rfl) Try.func4
    (ChangeSpec.witness6 (enc := enc) (C := Try.checked) false ⟨#[], #[.int .i64 0, .int .i64 0, .int .i64 0, .int .i64 0], []⟩ 8 (by kernel_rfl) (by kernel_rfl) (by kernel_rfl) (by kernel_rfl)) ?_
  intro W base args ds gs before hval0 hW hcnd _
  have hval : ∀ (j : Nat) t v, Try.f4.params[j]? = some t → args[j]? = some v → Value.okWide Try.prog W .any base t v := hval0
  have hW' := hW
  obtain ⟨p, q, hA0, hV, rfl, hfz, hnd⟩ := hW
  have hA : DataW.TrodAll enc Try.prog W 0 (fun _ => true) true Try.f4.params.toList args.toList ds p := hA0
  rw [Try.params4] at hA hval
  obtain ⟨v0, vs0, d0, ds0, p0, q0, hargs, rfl, rfl, h0, r0⟩ := trodAll_cons hA
  obtain ⟨v1, vs1, d1, ds1, p1, q1, rfl, rfl, rfl, h1, r1⟩ := trodAll_cons r0
  obtain ⟨v2, vs2, d2, ds2, p2, q2, rfl, rfl, rfl, h2, r2⟩ := trodAll_cons r1
  obtain ⟨v3, vs3, d3, ds3, p3, q3, rfl, rfl, rfl, h3, r3⟩ := trodAll_cons r2
  obtain ⟨rfl, rfl, rfl⟩ := trodAll_nil r3
  obtain rfl : args = #[v0, v1, v2, v3] := by cases args; simp_all
  obtain ⟨rfl, rfl⟩ := trodVars_none hV
  obtain ⟨a0, rfl, rfl, rfl, w0⟩ := open_int Try.underlying3 (hval 0 3 v0 rfl rfl) h0
  obtain ⟨a1, rfl, rfl, rfl, w1⟩ := open_int Try.underlying3 (hval 1 3 v1 rfl rfl) h1
  obtain ⟨a2, rfl, rfl, rfl, w2⟩ := open_int Try.underlying3 (hval 2 3 v2 rfl rfl) h2
  obtain ⟨a3, rfl, rfl, rfl, w3⟩ := open_int Try.underlying3 (hval 3 3 v3 rfl rfl) h3
  clear hA0 hval0
  simp only [List.append_nil] at hW'
  refine (walk a0 a1 a2 a3 w0 w1 w2 w3 W).mono fun e W' ⟨he, hg⟩ => ?_
  subst he
  exact ⟨_, rfl, post_bel (pa := []) (pv := []) hW' (fun _ _ _ => (trodAll_cons_mk (shut_bool Try.underlying4 _) trodAll_mk0)) (fun sp _ => (trodAll_cons_mk (shut_int Try.underlying3 w0) (trodAll_cons_mk (shut_int Try.underlying3 w1) (trodAll_cons_mk (shut_int Try.underlying3 w2) (trodAll_cons_mk (shut_int Try.underlying3 w3) trodAll_mk0))))) (fun _ _ => rfl) rfl
    hg (ok_one (by kernel_rfl) rfl (okWide_bool_mk Try.underlying4 _))⟩

theorem over : Rows.quantNearRow.holds Try.pinned (OpenSpec.ofChange Rows.quantNearSpec) :=
  OpenClaim.holds_of_wide 4 Try.f4 rfl rfl rfl rfl rfl rfl rfl ⟨rfl, rfl, rfl, rfl, rfl⟩ rfl rfl rfl rfl rfl (by kernel_rfl) Try.func4 (by kernel_rfl)
    (of_decide_eq_true (by kernel_rfl)) (by unfold Func.isWrapper; first | (rw [if_pos (by decide +kernel)]; kernel_rfl) | (rw [if_neg (by decide +kernel)]; exact ⟨rfl, rfl⟩))
    (fun os started H enc _ => lifted os started H enc)

/-- The given statement. -/
theorem proved : Rows.QuantNearSaid :=
  over
#print axioms proved
end Go.Proofs.Ytfppkhbbcnplfaa.quantNear

/- The walk of QuantTells: any decimals, Scales and modes. -/
import Derived.Test.YtkaflkofffgndaaQuantP
import Derived.Test.YtkaflkofffgndaaRefY
import Derived.Test.YtkaflkofffgndaaHandA
import Derived.Test.YtkaflkofffgndaaQuantG
namespace Go.Proofs.Ytkaflkofffgndaa
open Go.RowKit
theorem tup_inj {m m' : Bool} {c d q e c' d' q' e' : Int} {V : Value} (h : V = .tuple #[.agg #[.bool m, .int .u64 c, .int .u64 d, .int .i64 q], .int .i64 e]) (h' : V = .tuple #[.agg #[.bool m', .int .u64 c', .int .u64 d', .int .i64 q'], .int .i64 e']) : m = m' ∧ c = c' ∧ d = d' ∧ q = q' ∧ e = e' := by
  have := h.symm.trans h'
  simpa [and_assoc] using this
theorem eqDec_same (n : Bool) (a b s : Int) : eqDec n a b s n a b s = true := eqDec_iff.2 ⟨rfl, rfl, rfl, rfl⟩
set_option maxRecDepth 100000 in
set_option maxHeartbeats 12800000 in
theorem quantTells_c (pn ps pb pm po pt pk pj : Int) (w : World) (hpn : I64 pn) (hpm : I64 pm) :
    Calls Try.prog 3 #[.int .i64 pn, .int .i64 ps, .int .i64 pb, .int .i64 pm, .int .i64 po, .int .i64 pt, .int .i64 pk, .int .i64 pj] w (Ret w (IsBool true)) := by
  have HPN := Lib.hid hpn
  have HPM := Lib.hid hpm
  clear hpn hpm
  go_enter Try.func3, Try.ntmps3
  have V := HB.start (Below.refl w.heap.size w)
  go_wp2_with fail
  (with_reducible refine (handDec_c pn ps pb _ HPN.out).mono ?_)
  rintro e x1 ⟨_, ⟨n1, a1, b1, s1, ua1, ub1, _, _, rfl⟩, rfl, hb⟩
  replace V := V.below hb
  clear hb
  replace V := V.push #[.bool n1, .int .u64 a1, .int .u64 b1, .int .i64 s1] 25
  obtain ⟨l1, p10, p11, p12, p13⟩ := HB.dec (t := 25) (g := x1.heap.size) (a := .bool n1) (b := .int .u64 a1) (c := .int .u64 b1) (d := .int .i64 s1) V (by simp)
  go_wp2_with fail
  (with_reducible refine (handDec_c pm po pt _ HPM.out).mono ?_)
  rintro e x2 ⟨_, ⟨n2, a2, b2, s2, ua2, ub2, _, _, rfl⟩, rfl, hb⟩
  replace V := V.below hb
  clear hb
  clear l1 p10 p11 p12 p13
  replace V := V.push #[.bool n2, .int .u64 a2, .int .u64 b2, .int .i64 s2] 25
  obtain ⟨l2, p20, p21, p22, p23⟩ := HB.dec (t := 25) (g := x2.heap.size) (a := .bool n2) (b := .int .u64 a2) (c := .int .u64 b2) (d := .int .i64 s2) V (by simp)
  obtain ⟨l1, p10, p11, p12, p13⟩ := HB.dec (t := 25) (g := x1.heap.size) (a := .bool n1) (b := .int .u64 a1) (c := .int .u64 b1) (d := .int .i64 s1) V (by simp)
  go_wp2_with fail
  (with_reducible refine (pick_c pk 13 _ (by omega) (by omega)).mono ?_)
  rintro e w' ⟨_, ⟨k, ⟨k0, k13⟩, rfl⟩, rfl, rfl⟩
  go_wp2_with fail
  (with_reducible refine (pick_c pj 7 _ (by omega) (by omega)).mono ?_)
  rintro e w' ⟨_, ⟨j, ⟨j0, j7⟩, rfl⟩, rfl, rfl⟩
  go_wp2_with fail
  (with_reducible refine (quant_all n1 a1 b1 s1 (k - 2) (j - 1) _ ua1 ub1).mono ?_)
  rintro e x3 ⟨_, ⟨n3, a3, b3, s3, e3, h3, rfl⟩, rfl, hb⟩
  replace V := V.below hb
  clear hb
  clear l2 p20 p21 p22 p23 l1 p10 p11 p12 p13
  have H3 := Lib.hid h3
  clear h3
  replace V := V.push #[.bool n3, .int .u64 a3, .int .u64 b3, .int .i64 s3] 25
  obtain ⟨l2, p20, p21, p22, p23⟩ := HB.dec (t := 25) (g := x2.heap.size) (a := .bool n2) (b := .int .u64 a2) (c := .int .u64 b2) (d := .int .i64 s2) V (by simp)
  obtain ⟨l1, p10, p11, p12, p13⟩ := HB.dec (t := 25) (g := x1.heap.size) (a := .bool n1) (b := .int .u64 a1) (c := .int .u64 b1) (d := .int .i64 s1) V (by simp)
  go_wp2_with fail
  (with_reducible refine (div_all n1 a1 b1 s1 n2 a2 b2 s2 (k - 2) (j - 1) _ ua1 ub1 ua2 ub2).mono ?_)
  rintro e x4 ⟨_, ⟨n4, a4, b4, s4, e4, h4, rfl⟩, rfl, hb⟩
  replace V := V.below hb
  clear hb
  clear l2 p20 p21 p22 p23 l1 p10 p11 p12 p13
  have H4 := Lib.hid h4
  clear h4
  replace V := V.push #[.bool n4, .int .u64 a4, .int .u64 b4, .int .i64 s4] 25
  obtain ⟨l2, p20, p21, p22, p23⟩ := HB.dec (t := 25) (g := x2.heap.size) (a := .bool n2) (b := .int .u64 a2) (c := .int .u64 b2) (d := .int .i64 s2) V (by simp)
  obtain ⟨l1, p10, p11, p12, p13⟩ := HB.dec (t := 25) (g := x1.heap.size) (a := .bool n1) (b := .int .u64 a1) (c := .int .u64 b1) (d := .int .i64 s1) V (by simp)
  go_wp2_with fail
  (with_reducible refine (times_all n1 a1 b1 s1 n2 a2 b2 s2 (k - 2) (j - 1) _ ua1 ub1 ua2 ub2).mono ?_)
  rintro e x5 ⟨_, ⟨n5, a5, b5, s5, e5, h5, rfl⟩, rfl, hb⟩
  replace V := V.below hb
  clear hb
  clear l2 p20 p21 p22 p23 l1 p10 p11 p12 p13
  have H5 := Lib.hid h5
  clear h5
  replace V := V.push #[.bool n5, .int .u64 a5, .int .u64 b5, .int .i64 s5] 25
  obtain ⟨l2, p20, p21, p22, p23⟩ := HB.dec (t := 25) (g := x2.heap.size) (a := .bool n2) (b := .int .u64 a2) (c := .int .u64 b2) (d := .int .i64 s2) V (by simp)
  obtain ⟨l1, p10, p11, p12, p13⟩ := HB.dec (t := 25) (g := x1.heap.size) (a := .bool n1) (b := .int .u64 a1) (c := .int .u64 b1) (d := .int .i64 s1) V (by simp)
  go_wp2_with fail
  (with_reducible refine (unit_all n1 a1 b1 s1 n2 a2 b2 s2 (j - 1) _ ua1 ub1 ua2 ub2).mono ?_)
  rintro e x6 ⟨_, ⟨n6, a6, b6, s6, e6, h6, rfl⟩, rfl, hb⟩
  replace V := V.below hb
  clear hb
  clear l2 p20 p21 p22 p23 l1 p10 p11 p12 p13
  have H6 := Lib.hid h6
  clear h6
  replace V := V.push #[.bool n6, .int .u64 a6, .int .u64 b6, .int .i64 s6] 25
  obtain ⟨l2, p20, p21, p22, p23⟩ := HB.dec (t := 25) (g := x2.heap.size) (a := .bool n2) (b := .int .u64 a2) (c := .int .u64 b2) (d := .int .i64 s2) V (by simp)
  obtain ⟨l1, p10, p11, p12, p13⟩ := HB.dec (t := 25) (g := x1.heap.size) (a := .bool n1) (b := .int .u64 a1) (c := .int .u64 b1) (d := .int .i64 s1) V (by simp)
  as_aux_lemma =>
    go_wp2_with fail
    (with_reducible refine (rquant_all n1 a1 b1 s1 (k - 2) (j - 1) _ ua1 ub1).mono ?_)
    rintro e x7 ⟨_, ⟨n3y, a3y, b3y, s3y, e3y, h3y, rfl⟩, rfl, hb⟩
    replace V := V.below hb
    clear hb
    clear l2 p20 p21 p22 p23 l1 p10 p11 p12 p13
    obtain ⟨rfl, rfl, rfl, rfl, rfl⟩ := tup_inj H3.out h3y
    clear h3y
    replace V := V.push #[.bool n3, .int .u64 a3, .int .u64 b3, .int .i64 s3] 25
    obtain ⟨l2, p20, p21, p22, p23⟩ := HB.dec (t := 25) (g := x2.heap.size) (a := .bool n2) (b := .int .u64 a2) (c := .int .u64 b2) (d := .int .i64 s2) V (by simp)
    obtain ⟨l1, p10, p11, p12, p13⟩ := HB.dec (t := 25) (g := x1.heap.size) (a := .bool n1) (b := .int .u64 a1) (c := .int .u64 b1) (d := .int .i64 s1) V (by simp)
    go_wp2_with fail
    (with_reducible refine (rdiv_all n1 a1 b1 s1 n2 a2 b2 s2 (k - 2) (j - 1) _ ua1 ub1 ua2 ub2).mono ?_)
    rintro e x8 ⟨_, ⟨n4y, a4y, b4y, s4y, e4y, h4y, rfl⟩, rfl, hb⟩
    replace V := V.below hb
    clear hb
    clear l2 p20 p21 p22 p23 l1 p10 p11 p12 p13
    obtain ⟨rfl, rfl, rfl, rfl, rfl⟩ := tup_inj H4.out h4y
    clear h4y
    replace V := V.push #[.bool n4, .int .u64 a4, .int .u64 b4, .int .i64 s4] 25
    obtain ⟨l2, p20, p21, p22, p23⟩ := HB.dec (t := 25) (g := x2.heap.size) (a := .bool n2) (b := .int .u64 a2) (c := .int .u64 b2) (d := .int .i64 s2) V (by simp)
    obtain ⟨l1, p10, p11, p12, p13⟩ := HB.dec (t := 25) (g := x1.heap.size) (a := .bool n1) (b := .int .u64 a1) (c := .int .u64 b1) (d := .int .i64 s1) V (by simp)
    go_wp2_with fail
    (with_reducible refine (rtimes_all n1 a1 b1 s1 n2 a2 b2 s2 (k - 2) (j - 1) _ ua1 ub1 ua2 ub2).mono ?_)
    rintro e x9 ⟨_, ⟨n5y, a5y, b5y, s5y, e5y, h5y, rfl⟩, rfl, hb⟩
    replace V := V.below hb
    clear hb
    clear l2 p20 p21 p22 p23 l1 p10 p11 p12 p13
    obtain ⟨rfl, rfl, rfl, rfl, rfl⟩ := tup_inj H5.out h5y
    clear h5y
    replace V := V.push #[.bool n5, .int .u64 a5, .int .u64 b5, .int .i64 s5] 25
    obtain ⟨l2, p20, p21, p22, p23⟩ := HB.dec (t := 25) (g := x2.heap.size) (a := .bool n2) (b := .int .u64 a2) (c := .int .u64 b2) (d := .int .i64 s2) V (by simp)
    obtain ⟨l1, p10, p11, p12, p13⟩ := HB.dec (t := 25) (g := x1.heap.size) (a := .bool n1) (b := .int .u64 a1) (c := .int .u64 b1) (d := .int .i64 s1) V (by simp)
    go_wp2_with fail
    (with_reducible refine (runit_all n1 a1 b1 s1 n2 a2 b2 s2 (j - 1) _ ua1 ub1 ua2 ub2).mono ?_)
    rintro e x10 ⟨_, ⟨n6y, a6y, b6y, s6y, e6y, h6y, rfl⟩, rfl, hb⟩
    replace V := V.below hb
    clear hb
    clear l2 p20 p21 p22 p23 l1 p10 p11 p12 p13
    obtain ⟨rfl, rfl, rfl, rfl, rfl⟩ := tup_inj H6.out h6y
    clear h6y
    replace V := V.push #[.bool n6, .int .u64 a6, .int .u64 b6, .int .i64 s6] 25
    as_aux_lemma =>
      go_wp2_with fail
      (with_reducible refine (qk_c _).mono ?_)
      rintro e xk ⟨_, rfl, rfl, hb⟩
      replace V := V.below hb
      clear hb
      have q3 := eqDec_same n3 a3 b3 s3
      have r3 := eqW2_yes (a := a3) (b := b3) (c := a3) (d := b3) ⟨rfl, rfl⟩
      have q4 := eqDec_same n4 a4 b4 s4
      have r4 := eqW2_yes (a := a4) (b := b4) (c := a4) (d := b4) ⟨rfl, rfl⟩
      have q5 := eqDec_same n5 a5 b5 s5
      have r5 := eqW2_yes (a := a5) (b := b5) (c := a5) (d := b5) ⟨rfl, rfl⟩
      have q6 := eqDec_same n6 a6 b6 s6
      have r6 := eqW2_yes (a := a6) (b := b6) (c := a6) (d := b6) ⟨rfl, rfl⟩
      obtain ⟨l3, p30, p31, p32, p33⟩ := HB.dec (t := 25) (g := x3.heap.size) (a := .bool n3) (b := .int .u64 a3) (c := .int .u64 b3) (d := .int .i64 s3) V (by simp)
      obtain ⟨l4, p40, p41, p42, p43⟩ := HB.dec (t := 25) (g := x4.heap.size) (a := .bool n4) (b := .int .u64 a4) (c := .int .u64 b4) (d := .int .i64 s4) V (by simp)
      obtain ⟨l5, p50, p51, p52, p53⟩ := HB.dec (t := 25) (g := x5.heap.size) (a := .bool n5) (b := .int .u64 a5) (c := .int .u64 b5) (d := .int .i64 s5) V (by simp)
      obtain ⟨l6, p60, p61, p62, p63⟩ := HB.dec (t := 25) (g := x6.heap.size) (a := .bool n6) (b := .int .u64 a6) (c := .int .u64 b6) (d := .int .i64 s6) V (by simp)
      obtain ⟨l7, p70, p71, p72, p73⟩ := HB.dec (t := 25) (g := x7.heap.size) (a := .bool n3) (b := .int .u64 a3) (c := .int .u64 b3) (d := .int .i64 s3) V (by simp)
      obtain ⟨l8, p80, p81, p82, p83⟩ := HB.dec (t := 25) (g := x8.heap.size) (a := .bool n4) (b := .int .u64 a4) (c := .int .u64 b4) (d := .int .i64 s4) V (by simp)
      obtain ⟨l9, p90, p91, p92, p93⟩ := HB.dec (t := 25) (g := x9.heap.size) (a := .bool n5) (b := .int .u64 a5) (c := .int .u64 b5) (d := .int .i64 s5) V (by simp)
      obtain ⟨l10, p100, p101, p102, p103⟩ := HB.dec (t := 25) (g := x10.heap.size) (a := .bool n6) (b := .int .u64 a6) (c := .int .u64 b6) (d := .int .i64 s6) V (by simp)
      have HV := Lib.hid V.bel
      clear V
      go_wp2
      go_ret
      exact ⟨_, rfl, rfl, HV.out⟩
end Go.Proofs.Ytkaflkofffgndaa

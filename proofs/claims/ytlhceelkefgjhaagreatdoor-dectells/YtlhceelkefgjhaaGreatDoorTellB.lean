/- Of at any number; the walk of DecTells. -/
import Derived.Test.YtlhceelkefgjhaaGreatDoorTellA
import Derived.Test.YtlhceelkefgjhaaGreatDoorRefS
import Derived.Test.YtlhceelkefgjhaaGreatDoorRefT
import Derived.Test.YtlhceelkefgjhaaGreatDoorTextM
namespace Go.Proofs.YtlhceelkefgjhaaGreatDoor
open Go.RowKit
set_option maxRecDepth 100000 in
set_option maxHeartbeats 1600000 in
theorem dOf_v (z s r1 r : Int) (n : Bool) (a : Int) (w : World) (hlo : -9223372036854775808 ≤ z) (hhi : z ≤ 9223372036854775807) (hmx : max s 0 = r1) (hmn : min r1 9 = r) (hn : n = decide (z < 0)) (ha : a = (z.natAbs : Int)) :
    Calls Tryz.prog 28 #[.int .i64 z, .int .i64 s] w (Ret w (· = .agg #[.bool n, .int .u64 a, .int .u64 0, .int .i64 r])) := by
  subst hn ha
  have W : HB w [(w.heap.size, 25, #[.bool false, .int .u64 0, .int .u64 0, .int .i64 0])] (w.alloc (.cells #[.bool false, .int .u64 0, .int .u64 0, .int .i64 0] 25)) := (HB.start (Below.refl _ w)).push #[.bool false, .int .u64 0, .int .u64 0, .int .i64 0] 25
  have hlg : w.heap.size ≤ w.heap.size := Nat.le_refl _
  rcases Int.lt_or_le z 0 with hz | hz
  · rw [decide_eq_true hz, show (z.natAbs : Int) = -z by omega]
    have hw : IntKind.u64.wrap z = z + 18446744073709551616 := by rw [IntKind.wrap_u64]; omega
    have hw2 : IntKind.u64.wrap (-(z + 18446744073709551616)) = -z := by rw [IntKind.wrap_u64]; omega
    obtain ⟨u, hu⟩ : ∃ u, z + 18446744073709551616 = u := ⟨_, rfl⟩
    rw [hu] at hw hw2
    clear hu
    go_enter Tryz.func28, Tryz.ntmps28
    go_wp2_with fail
    refine (of_c (-z) _).mono ?_
    rintro e w1 ⟨_, rfl, rfl, hb⟩
    replace W := W.below hb
    clear hb
    obtain ⟨lq, y0, y1, y2, y3⟩ := HB.dec (t := 25) (g := w.heap.size) (a := .bool false) (b := .int .u64 0) (c := .int .u64 0) (d := .int .i64 0) W (by simp)
    have Bz := HB.blk (g := w.heap.size) (t := 25) (cs := #[.bool false, .int .u64 0, .int .u64 0, .int .i64 0]) W (by simp)
    have fz0 := Bz.frozen 0
    have fz1 := Bz.frozen 1
    have fz2 := Bz.frozen 2
    have fz3 := Bz.frozen 3
    clear Bz
    have HB1 := Lib.hid W.1
    clear W
    go_wp2
    exact bodyPost_ret (v := .agg #[.bool true, .int .u64 (-z), .int .u64 0, .int .i64 r]) (by simp [results, Tryz.results28, go_sem, y0, y1, y2, y3]) rfl ⟨_, rfl, rfl, bel4 HB1.out hlg⟩
  · rw [decide_eq_false (Int.not_lt.2 hz), show (z.natAbs : Int) = z by omega]
    have hw : IntKind.u64.wrap z = z := by rw [IntKind.wrap_u64]; omega
    go_enter Tryz.func28, Tryz.ntmps28
    go_wp2_with fail
    refine (of_c z _).mono ?_
    rintro e w1 ⟨_, rfl, rfl, hb⟩
    replace W := W.below hb
    clear hb
    obtain ⟨lq, y0, y1, y2, y3⟩ := HB.dec (t := 25) (g := w.heap.size) (a := .bool false) (b := .int .u64 0) (c := .int .u64 0) (d := .int .i64 0) W (by simp)
    have Bz := HB.blk (g := w.heap.size) (t := 25) (cs := #[.bool false, .int .u64 0, .int .u64 0, .int .i64 0]) W (by simp)
    have fz0 := Bz.frozen 0
    have fz1 := Bz.frozen 1
    have fz2 := Bz.frozen 2
    have fz3 := Bz.frozen 3
    clear Bz
    have HB1 := Lib.hid W.1
    clear W
    go_wp2
    exact bodyPost_ret (v := .agg #[.bool false, .int .u64 z, .int .u64 0, .int .i64 r]) (by simp [results, Tryz.results28, go_sem, y0, y1, y2, y3, Int.not_lt.2 hz]) rfl ⟨_, rfl, rfl, bel4 HB1.out hlg⟩
set_option maxRecDepth 100000 in
set_option maxHeartbeats 1600000 in
theorem rOf_c (z s r : Int) (w : World) (hlo : -9223372036854775808 ≤ z) (hhi : z ≤ 9223372036854775807) (ew : withinI s 0 9 = r) (h0 : 0 ≤ r) (h9 : r ≤ 9) :
    Calls Tryz.prog 29 #[.int .i64 z, .int .i64 s] w (Ret w (IsDec z r)) := by
  have W : HB w [(w.heap.size, 25, #[.bool false, .int .u64 0, .int .u64 0, .int .i64 0])] (w.alloc (.cells #[.bool false, .int .u64 0, .int .u64 0, .int .i64 0] 25)) := (HB.start (Below.refl _ w)).push #[.bool false, .int .u64 0, .int .u64 0, .int .i64 0] 25
  obtain ⟨N, hN⟩ : ∃ N, z.natAbs = N := ⟨_, rfl⟩
  have u : U64 (N : Int) := by unfold U64; omega
  have hN30 : N < 1000000000000000000000000000000 := by omega
  have HN30 := Lib.hid hN30
  clear hN30
  have EW := Lib.hid ew
  clear ew
  by_cases hz : z < 0
  · have ez : zOf true N = z := by unfold zOf; simp; omega
    have e1 : IntKind.u64.wrap z = z + 18446744073709551616 := by rw [IntKind.wrap_u64]; omega
    have e2 : IntKind.u64.wrap (-(z + 18446744073709551616)) = (N : Int) := by rw [IntKind.wrap_u64]; omega
    have EZ := Lib.hid ez
    clear ez hN
    go_enter Tryz.func29, Tryz.ntmps29
    go_wp2_with fail
    refine (word_c' N _ (by unfold U64 at u; omega)).mono ?_
    rintro e w1 ⟨A, n, k, ds, ⟨D, HN, E⟩, rfl, hb⟩
    replace W := W.below hb
    clear hb
    have EH := Lib.hid E
    clear E
    go_wp2_with fail
    refine (within_c s 0 9 _).mono ?_
    rintro e w2 ⟨rfl, rfl⟩
    rw [EW.out]
    go_wp2_with fail
    refine (make_c true A n k ds N r _ D HN EH.out HN30.out h0 h9).mono ?_
    rintro e w3 ⟨_, ⟨m, c, d, HD, rfl⟩, rfl, hb⟩
    replace W := W.below hb
    clear hb D
    rw [EZ.out] at HD
    have HDh := Lib.hid HD
    clear HD
    obtain ⟨lq, q0, q1, q2, q3⟩ := HB.dec (t := 25) (g := w.heap.size) (a := .bool false) (b := .int .u64 0) (c := .int .u64 0) (d := .int .i64 0) W (by simp)
    have Bz := HB.blk (g := w.heap.size) (t := 25) (cs := #[.bool false, .int .u64 0, .int .u64 0, .int .i64 0]) W (by simp)
    have fz0 := Bz.frozen 0
    have fz1 := Bz.frozen 1
    have fz2 := Bz.frozen 2
    have fz3 := Bz.frozen 3
    clear Bz
    have HB1 := Lib.hid W.1
    clear W
    go_wp2
    exact bodyPost_ret (v := .agg #[.bool m, .int .u64 c, .int .u64 d, .int .i64 r]) (by simp [results, Tryz.results29, go_sem, q0, q1, q2, q3, lq]) rfl ⟨_, ⟨_, _, _, HDh.out, rfl⟩, rfl, bel_alloc (bel4 HB1.out (Nat.le_refl _)) _⟩
  · have ez : zOf false N = z := by unfold zOf; simp; omega
    have e1 : IntKind.u64.wrap z = (N : Int) := by rw [IntKind.wrap_u64]; omega
    have g1 : decide (z < 0) = false := by simp; omega
    have EZ := Lib.hid ez
    clear ez hN
    go_enter Tryz.func29, Tryz.ntmps29
    go_wp2_with fail
    refine (word_c' N _ (by unfold U64 at u; omega)).mono ?_
    rintro e w1 ⟨A, n, k, ds, ⟨D, HN, E⟩, rfl, hb⟩
    replace W := W.below hb
    clear hb
    have EH := Lib.hid E
    clear E
    go_wp2_with fail
    refine (within_c s 0 9 _).mono ?_
    rintro e w2 ⟨rfl, rfl⟩
    rw [EW.out]
    go_wp2_with fail
    refine (make_c false A n k ds N r _ D HN EH.out HN30.out h0 h9).mono ?_
    rintro e w3 ⟨_, ⟨m, c, d, HD, rfl⟩, rfl, hb⟩
    replace W := W.below hb
    clear hb D
    rw [EZ.out] at HD
    have HDh := Lib.hid HD
    clear HD
    obtain ⟨lq, q0, q1, q2, q3⟩ := HB.dec (t := 25) (g := w.heap.size) (a := .bool false) (b := .int .u64 0) (c := .int .u64 0) (d := .int .i64 0) W (by simp)
    have Bz := HB.blk (g := w.heap.size) (t := 25) (cs := #[.bool false, .int .u64 0, .int .u64 0, .int .i64 0]) W (by simp)
    have fz0 := Bz.frozen 0
    have fz1 := Bz.frozen 1
    have fz2 := Bz.frozen 2
    have fz3 := Bz.frozen 3
    clear Bz
    have HB1 := Lib.hid W.1
    clear W
    go_wp2
    exact bodyPost_ret (v := .agg #[.bool m, .int .u64 c, .int .u64 d, .int .i64 r]) (by simp [results, Tryz.results29, go_sem, q0, q1, q2, q3, lq]) rfl ⟨_, ⟨_, _, _, HDh.out, rfl⟩, rfl, bel_alloc (bel4 HB1.out (Nat.le_refl _)) _⟩
theorem nat_v2 (z : Int) (h : -9223372036854775808 ≤ z ∧ z ≤ 9223372036854775807) : DecIs (decide (z < 0)) (z.natAbs : Int) 0 z := by
  refine ⟨rfl, ?_, u64_0, ?_⟩
  · unfold U64; omega
  · unfold v2; simp
theorem rOf_v (z s r : Int) (n : Bool) (a : Int) (w : World) (hz : -9223372036854775808 ≤ z ∧ z ≤ 9223372036854775807) (hr : min (max s 0) 9 = r) (hn : n = decide (z < 0)) (ha : a = (z.natAbs : Int)) :
    Calls Tryz.prog 29 #[.int .i64 z, .int .i64 s] w (Ret w (· = .agg #[.bool n, .int .u64 a, .int .u64 0, .int .i64 r])) := by
  subst hn ha
  refine (rOf_c z s r w hz.1 hz.2 (by unfold withinI; omega) (by omega) (by omega)).mono ?_
  rintro e w' ⟨v, ⟨m, c, d, hd, ev⟩, he, hb⟩
  obtain ⟨rfl, rfl, rfl⟩ := decIs_one hd (nat_v2 z hz)
  exact ⟨v, ev, he, hb⟩
theorem ofD_v (z s r : Int) (n : Bool) (a : Int) (w : World) (hz : -9223372036854775808 ≤ z ∧ z ≤ 9223372036854775807) (hr : min (max s 0) 9 = r) (hn : n = decide (z < 0)) (ha : a = (z.natAbs : Int)) :
    Calls Tryz.prog 28 #[.int .i64 z, .int .i64 s] w (Ret w (· = .agg #[.bool n, .int .u64 a, .int .u64 0, .int .i64 r])) :=
  dOf_v z s _ r n a w hz.1 hz.2 rfl hr hn ha
theorem neg_form (n : Bool) (a b s : Int) : ∃ (m : Bool) (c d q : Int), negV n a b s = .agg #[.bool m, .int .u64 c, .int .u64 d, .int .i64 q] := by
  unfold negV
  by_cases hr : RightD n a b s
  · rw [if_pos hr]
    obtain ⟨m, c, d, _, e⟩ := decV_is (z := -(zOf n (v2 a b))) (s := s) (by rw [Int.natAbs_neg]; exact zof_30 hr)
    exact ⟨m, c, d, s, e⟩
  · rw [if_neg hr]
    exact ⟨_, _, _, _, zero_form⟩
theorem tup_inj {m m' : Bool} {c d q e c' d' q' e' : Int} {V : Value} (h : V = .tuple #[.agg #[.bool m, .int .u64 c, .int .u64 d, .int .i64 q], .int .i64 e]) (h' : V = .tuple #[.agg #[.bool m', .int .u64 c', .int .u64 d', .int .i64 q'], .int .i64 e']) : m = m' ∧ c = c' ∧ d = d' ∧ q = q' ∧ e = e' := by
  have := h.symm.trans h'
  simpa [and_assoc] using this
theorem eqDec_same (n : Bool) (a b s : Int) : eqDec n a b s n a b s = true := eqDec_iff.2 ⟨rfl, rfl, rfl, rfl⟩
theorem negD_v (n : Bool) (a b s : Int) (m : Bool) (c d q : Int) (w : World) (ha : U64 a) (hb : U64 b) (h : negV n a b s = .agg #[.bool m, .int .u64 c, .int .u64 d, .int .i64 q]) :
    Calls Tryz.prog 20 #[.agg #[.bool n, .int .u64 a, .int .u64 b, .int .i64 s]] w (Ret w (· = .agg #[.bool m, .int .u64 c, .int .u64 d, .int .i64 q])) :=
  (neg_all n a b s w ha hb).mono fun _ _ ⟨v, ⟨_, _, _, _, h1, h2⟩, he, hb⟩ => ⟨v, h2.trans (h1.symm.trans h), he, hb⟩
theorem rnegD_v (n : Bool) (a b s : Int) (m : Bool) (c d q : Int) (w : World) (ha : U64 a) (hb : U64 b) (h : negV n a b s = .agg #[.bool m, .int .u64 c, .int .u64 d, .int .i64 q]) :
    Calls Tryz.prog 21 #[.agg #[.bool n, .int .u64 a, .int .u64 b, .int .i64 s]] w (Ret w (· = .agg #[.bool m, .int .u64 c, .int .u64 d, .int .i64 q])) :=
  (rneg_all n a b s w ha hb).mono fun _ _ ⟨v, ⟨_, _, _, _, h1, h2⟩, he, hb⟩ => ⟨v, h2.trans (h1.symm.trans h), he, hb⟩
theorem signD_v (n : Bool) (a b s c : Int) (w : World) (ha : U64 a) (hb : U64 b) (hc : signV n a b s = c) :
    Calls Tryz.prog 22 #[.agg #[.bool n, .int .u64 a, .int .u64 b, .int .i64 s]] w (Ret w (· = .int .i64 c)) := by
  subst hc
  exact sign_all n a b s w ha hb
theorem cmpD_v (n : Bool) (a b s : Int) (n' : Bool) (a' b' s' c : Int) (w : World) (ha : U64 a) (hb : U64 b) (ha' : U64 a') (hb' : U64 b') (hc : cmpV n a b s n' a' b' s' = c) :
    Calls Tryz.prog 24 #[.agg #[.bool n, .int .u64 a, .int .u64 b, .int .i64 s], .agg #[.bool n', .int .u64 a', .int .u64 b', .int .i64 s']] w (Ret w (· = .int .i64 c)) := by
  subst hc
  exact cmp_all n a b s n' a' b' s' w ha hb ha' hb'
theorem rcmpD_v (n : Bool) (a b s : Int) (n' : Bool) (a' b' s' c : Int) (w : World) (ha : U64 a) (hb : U64 b) (ha' : U64 a') (hb' : U64 b') (hc : cmpV n a b s n' a' b' s' = c) :
    Calls Tryz.prog 25 #[.agg #[.bool n, .int .u64 a, .int .u64 b, .int .i64 s], .agg #[.bool n', .int .u64 a', .int .u64 b', .int .i64 s']] w (Ret w (· = .int .i64 c)) := by
  subst hc
  exact rcmp_all n a b s n' a' b' s' w ha hb ha' hb'
theorem printD_v (n : Bool) (a b s : Int) (l : List UInt8) (w : World) (ha : U64 a) (hb : U64 b) (htab : Lib.TabIs Tryz.prog w "internal/strconv.uint64pow10" .u64 Lib.pow10Tab) (hc : printV n a b s = l) :
    Calls Tryz.prog 26 #[.agg #[.bool n, .int .u64 a, .int .u64 b, .int .i64 s]] w (Ret w (· = .string ⟨l.toArray⟩)) := by
  subst hc
  exact print_all n a b s w ha hb htab
theorem rprintD_v (n : Bool) (a b s : Int) (l : List UInt8) (w : World) (ha : U64 a) (hb : U64 b) (hc : printV n a b s = l) :
    Calls Tryz.prog 27 #[.agg #[.bool n, .int .u64 a, .int .u64 b, .int .i64 s]] w (Ret w (· = .string ⟨l.toArray⟩)) := by
  subst hc
  exact rprint_all n a b s w ha hb
theorem bytes_of (s : ByteArray) : s = ⟨s.data.toList.toArray⟩ := by cases s; simp
set_option maxRecDepth 100000 in
set_option maxHeartbeats 6400000 in
theorem decTells_c (pn ps pb pm po pt pk mx : Int) (raw : ByteArray) (w : World) (hpn : I64 pn) (hpb : I64 pb) (hpm : I64 pm) (hraw : raw.size ≤ 281474976710656) (hm : w.cell? ⟨0, 0, none⟩ = some (.int .i64 mx)) (htab : Lib.TabIs Tryz.prog w "internal/strconv.uint64pow10" .u64 Lib.pow10Tab) :
    Calls Tryz.prog 3 #[.int .i64 pn, .int .i64 ps, .int .i64 pb, .int .i64 pm, .int .i64 po, .int .i64 pt, .string raw, .int .i64 pk] w (Ret w (IsBool true)) := by
  have HT := Lib.hid htab
  have HM := Lib.hid hm
  have HPN := Lib.hid hpn
  have HPB := Lib.hid hpb
  have HPM := Lib.hid hpm
  clear htab hm hpn hpb hpm
  go_enter Tryz.func3, Tryz.ntmps3
  have V := HB.start (Below.refl w.heap.size w)
  go_wp2_with fail
  (with_reducible refine (handDec_c pn ps pb _ HPN.out).mono ?_)
  rintro e x1 ⟨_, ⟨n1, a1, b1, s1, ua1, ub1, _, _, rfl⟩, rfl, hb⟩
  replace V := V.below hb
  clear hb
  replace V := V.push #[.bool n1, .int .u64 a1, .int .u64 b1, .int .i64 s1] 25
  obtain ⟨l1, p10, p11, p12, p13⟩ := HB.dec (t := 25) (g := x1.heap.size) (a := .bool n1) (b := .int .u64 a1) (c := .int .u64 b1) (d := .int .i64 s1) V (by simp)
  go_wp2_with fail
  (with_reducible refine (handDec_c pm po pt _ HPM.out).mono ?_)
  rintro e x2 ⟨_, ⟨n2, a2, b2, s2, ua2, ub2, _, _, rfl⟩, rfl, hb⟩
  replace V := V.below hb
  clear hb
  clear l1 p10 p11 p12 p13
  replace V := V.push #[.bool n2, .int .u64 a2, .int .u64 b2, .int .i64 s2] 25
  obtain ⟨l2, p20, p21, p22, p23⟩ := HB.dec (t := 25) (g := x2.heap.size) (a := .bool n2) (b := .int .u64 a2) (c := .int .u64 b2) (d := .int .i64 s2) V (by simp)
  obtain ⟨l1, p10, p11, p12, p13⟩ := HB.dec (t := 25) (g := x1.heap.size) (a := .bool n1) (b := .int .u64 a1) (c := .int .u64 b1) (d := .int .i64 s1) V (by simp)
  go_wp2_with fail
  (with_reducible refine (pick_c pk 13 _ (by omega) (by omega)).mono ?_)
  rintro e w' ⟨_, ⟨k, ⟨k0, k13⟩, rfl⟩, rfl, rfl⟩
  go_wp2_with fail
  (with_reducible refine (add_all n1 a1 b1 s1 n2 a2 b2 s2 _ ua1 ub1 ua2 ub2).mono ?_)
  rintro e x3 ⟨_, ⟨n3, a3, b3, s3, e3, h3, rfl⟩, rfl, hb⟩
  replace V := V.below hb
  clear hb
  clear l2 p20 p21 p22 p23 l1 p10 p11 p12 p13
  have H3 := Lib.hid h3
  clear h3
  replace V := V.push #[.bool n3, .int .u64 a3, .int .u64 b3, .int .i64 s3] 25
  obtain ⟨l2, p20, p21, p22, p23⟩ := HB.dec (t := 25) (g := x2.heap.size) (a := .bool n2) (b := .int .u64 a2) (c := .int .u64 b2) (d := .int .i64 s2) V (by simp)
  obtain ⟨l1, p10, p11, p12, p13⟩ := HB.dec (t := 25) (g := x1.heap.size) (a := .bool n1) (b := .int .u64 a1) (c := .int .u64 b1) (d := .int .i64 s1) V (by simp)
  go_wp2_with fail
  (with_reducible refine (sub_all n1 a1 b1 s1 n2 a2 b2 s2 _ ua1 ub1 ua2 ub2).mono ?_)
  rintro e x4 ⟨_, ⟨n4, a4, b4, s4, e4, h4, rfl⟩, rfl, hb⟩
  replace V := V.below hb
  clear hb
  clear l2 p20 p21 p22 p23 l1 p10 p11 p12 p13
  have H4 := Lib.hid h4
  clear h4
  replace V := V.push #[.bool n4, .int .u64 a4, .int .u64 b4, .int .i64 s4] 25
  obtain ⟨l2, p20, p21, p22, p23⟩ := HB.dec (t := 25) (g := x2.heap.size) (a := .bool n2) (b := .int .u64 a2) (c := .int .u64 b2) (d := .int .i64 s2) V (by simp)
  obtain ⟨l1, p10, p11, p12, p13⟩ := HB.dec (t := 25) (g := x1.heap.size) (a := .bool n1) (b := .int .u64 a1) (c := .int .u64 b1) (d := .int .i64 s1) V (by simp)
  go_wp2_with fail
  (with_reducible refine (mul_all n1 a1 b1 s1 n2 a2 b2 s2 _ ua1 ub1 ua2 ub2).mono ?_)
  rintro e x5 ⟨_, ⟨n5, a5, b5, s5, e5, h5, rfl⟩, rfl, hb⟩
  replace V := V.below hb
  clear hb
  clear l2 p20 p21 p22 p23 l1 p10 p11 p12 p13
  have H5 := Lib.hid h5
  clear h5
  replace V := V.push #[.bool n5, .int .u64 a5, .int .u64 b5, .int .i64 s5] 25
  obtain ⟨l2, p20, p21, p22, p23⟩ := HB.dec (t := 25) (g := x2.heap.size) (a := .bool n2) (b := .int .u64 a2) (c := .int .u64 b2) (d := .int .i64 s2) V (by simp)
  obtain ⟨l1, p10, p11, p12, p13⟩ := HB.dec (t := 25) (g := x1.heap.size) (a := .bool n1) (b := .int .u64 a1) (c := .int .u64 b1) (d := .int .i64 s1) V (by simp)
  go_wp2_with fail
  (with_reducible refine (scaled_all n1 a1 b1 s1 (k - 2) _ ua1 ub1).mono ?_)
  rintro e x6 ⟨_, ⟨n6, a6, b6, s6, e6, h6, rfl⟩, rfl, hb⟩
  replace V := V.below hb
  clear hb
  clear l2 p20 p21 p22 p23 l1 p10 p11 p12 p13
  have H6 := Lib.hid h6
  clear h6
  replace V := V.push #[.bool n6, .int .u64 a6, .int .u64 b6, .int .i64 s6] 25
  obtain ⟨l2, p20, p21, p22, p23⟩ := HB.dec (t := 25) (g := x2.heap.size) (a := .bool n2) (b := .int .u64 a2) (c := .int .u64 b2) (d := .int .i64 s2) V (by simp)
  obtain ⟨l1, p10, p11, p12, p13⟩ := HB.dec (t := 25) (g := x1.heap.size) (a := .bool n1) (b := .int .u64 a1) (c := .int .u64 b1) (d := .int .i64 s1) V (by simp)
  as_aux_lemma =>
    go_wp2_with fail
    (with_reducible refine (radd_all n1 a1 b1 s1 n2 a2 b2 s2 _ ua1 ub1 ua2 ub2).mono ?_)
    rintro e x7 ⟨_, ⟨n3y, a3y, b3y, s3y, e3y, h3y, rfl⟩, rfl, hb⟩
    replace V := V.below hb
    clear hb
    clear l2 p20 p21 p22 p23 l1 p10 p11 p12 p13
    obtain ⟨rfl, rfl, rfl, rfl, rfl⟩ := tup_inj H3.out h3y
    clear h3y
    obtain ⟨l2, p20, p21, p22, p23⟩ := HB.dec (t := 25) (g := x2.heap.size) (a := .bool n2) (b := .int .u64 a2) (c := .int .u64 b2) (d := .int .i64 s2) V (by simp)
    obtain ⟨l1, p10, p11, p12, p13⟩ := HB.dec (t := 25) (g := x1.heap.size) (a := .bool n1) (b := .int .u64 a1) (c := .int .u64 b1) (d := .int .i64 s1) V (by simp)
    clear l2 p20 p21 p22 p23 l1 p10 p11 p12 p13
    replace V := V.push #[.bool n3, .int .u64 a3, .int .u64 b3, .int .i64 s3] 25
    obtain ⟨l2, p20, p21, p22, p23⟩ := HB.dec (t := 25) (g := x2.heap.size) (a := .bool n2) (b := .int .u64 a2) (c := .int .u64 b2) (d := .int .i64 s2) V (by simp)
    obtain ⟨l1, p10, p11, p12, p13⟩ := HB.dec (t := 25) (g := x1.heap.size) (a := .bool n1) (b := .int .u64 a1) (c := .int .u64 b1) (d := .int .i64 s1) V (by simp)
    go_wp2_with fail
    (with_reducible refine (rsub_all n1 a1 b1 s1 n2 a2 b2 s2 _ ua1 ub1 ua2 ub2).mono ?_)
    rintro e x8 ⟨_, ⟨n4y, a4y, b4y, s4y, e4y, h4y, rfl⟩, rfl, hb⟩
    replace V := V.below hb
    clear hb
    clear l2 p20 p21 p22 p23 l1 p10 p11 p12 p13
    obtain ⟨rfl, rfl, rfl, rfl, rfl⟩ := tup_inj H4.out h4y
    clear h4y
    obtain ⟨l2, p20, p21, p22, p23⟩ := HB.dec (t := 25) (g := x2.heap.size) (a := .bool n2) (b := .int .u64 a2) (c := .int .u64 b2) (d := .int .i64 s2) V (by simp)
    obtain ⟨l1, p10, p11, p12, p13⟩ := HB.dec (t := 25) (g := x1.heap.size) (a := .bool n1) (b := .int .u64 a1) (c := .int .u64 b1) (d := .int .i64 s1) V (by simp)
    clear l2 p20 p21 p22 p23 l1 p10 p11 p12 p13
    replace V := V.push #[.bool n4, .int .u64 a4, .int .u64 b4, .int .i64 s4] 25
    obtain ⟨l2, p20, p21, p22, p23⟩ := HB.dec (t := 25) (g := x2.heap.size) (a := .bool n2) (b := .int .u64 a2) (c := .int .u64 b2) (d := .int .i64 s2) V (by simp)
    obtain ⟨l1, p10, p11, p12, p13⟩ := HB.dec (t := 25) (g := x1.heap.size) (a := .bool n1) (b := .int .u64 a1) (c := .int .u64 b1) (d := .int .i64 s1) V (by simp)
    go_wp2_with fail
    (with_reducible refine (rmul_all n1 a1 b1 s1 n2 a2 b2 s2 _ ua1 ub1 ua2 ub2).mono ?_)
    rintro e x9 ⟨_, ⟨n5y, a5y, b5y, s5y, e5y, h5y, rfl⟩, rfl, hb⟩
    replace V := V.below hb
    clear hb
    clear l2 p20 p21 p22 p23 l1 p10 p11 p12 p13
    obtain ⟨rfl, rfl, rfl, rfl, rfl⟩ := tup_inj H5.out h5y
    clear h5y
    obtain ⟨l2, p20, p21, p22, p23⟩ := HB.dec (t := 25) (g := x2.heap.size) (a := .bool n2) (b := .int .u64 a2) (c := .int .u64 b2) (d := .int .i64 s2) V (by simp)
    obtain ⟨l1, p10, p11, p12, p13⟩ := HB.dec (t := 25) (g := x1.heap.size) (a := .bool n1) (b := .int .u64 a1) (c := .int .u64 b1) (d := .int .i64 s1) V (by simp)
    clear l2 p20 p21 p22 p23 l1 p10 p11 p12 p13
    replace V := V.push #[.bool n5, .int .u64 a5, .int .u64 b5, .int .i64 s5] 25
    obtain ⟨l2, p20, p21, p22, p23⟩ := HB.dec (t := 25) (g := x2.heap.size) (a := .bool n2) (b := .int .u64 a2) (c := .int .u64 b2) (d := .int .i64 s2) V (by simp)
    obtain ⟨l1, p10, p11, p12, p13⟩ := HB.dec (t := 25) (g := x1.heap.size) (a := .bool n1) (b := .int .u64 a1) (c := .int .u64 b1) (d := .int .i64 s1) V (by simp)
    go_wp2_with fail
    (with_reducible refine (rscaled_all n1 a1 b1 s1 (k - 2) _ ua1 ub1).mono ?_)
    rintro e x10 ⟨_, ⟨n6y, a6y, b6y, s6y, e6y, h6y, rfl⟩, rfl, hb⟩
    replace V := V.below hb
    clear hb
    clear l2 p20 p21 p22 p23 l1 p10 p11 p12 p13
    obtain ⟨rfl, rfl, rfl, rfl, rfl⟩ := tup_inj H6.out h6y
    clear h6y
    obtain ⟨l2, p20, p21, p22, p23⟩ := HB.dec (t := 25) (g := x2.heap.size) (a := .bool n2) (b := .int .u64 a2) (c := .int .u64 b2) (d := .int .i64 s2) V (by simp)
    obtain ⟨l1, p10, p11, p12, p13⟩ := HB.dec (t := 25) (g := x1.heap.size) (a := .bool n1) (b := .int .u64 a1) (c := .int .u64 b1) (d := .int .i64 s1) V (by simp)
    clear l2 p20 p21 p22 p23 l1 p10 p11 p12 p13
    replace V := V.push #[.bool n6, .int .u64 a6, .int .u64 b6, .int .i64 s6] 25
    obtain ⟨l2, p20, p21, p22, p23⟩ := HB.dec (t := 25) (g := x2.heap.size) (a := .bool n2) (b := .int .u64 a2) (c := .int .u64 b2) (d := .int .i64 s2) V (by simp)
    obtain ⟨l1, p10, p11, p12, p13⟩ := HB.dec (t := 25) (g := x1.heap.size) (a := .bool n1) (b := .int .u64 a1) (c := .int .u64 b1) (d := .int .i64 s1) V (by simp)
    as_aux_lemma =>
      go_wp2_with fail
      (with_reducible refine (text_c pn ps pb raw _ HPN.out HPB.out hraw).mono ?_)
      rintro e x11 ⟨_, ⟨str, hstr, rfl⟩, rfl, hb⟩
      replace V := V.below hb
      clear hb
      clear l2 p20 p21 p22 p23 l1 p10 p11 p12 p13
      obtain ⟨l, hl, rfl⟩ : ∃ l : List UInt8, l.length ≤ 281474976710656 ∧ str = ⟨l.toArray⟩ := ⟨str.data.toList, by rw [Array.length_toList]; exact hstr, bytes_of str⟩
      clear hstr
      obtain ⟨l2, p20, p21, p22, p23⟩ := HB.dec (t := 25) (g := x2.heap.size) (a := .bool n2) (b := .int .u64 a2) (c := .int .u64 b2) (d := .int .i64 s2) V (by simp)
      obtain ⟨l1, p10, p11, p12, p13⟩ := HB.dec (t := 25) (g := x1.heap.size) (a := .bool n1) (b := .int .u64 a1) (c := .int .u64 b1) (d := .int .i64 s1) V (by simp)
      go_wp2_with fail
      (with_reducible refine (read_all l mx _ hl (cell_keep V.bel HM.out)).mono ?_)
      rintro e x12 ⟨_, ⟨n7, a7, b7, s7, e7, h7, rfl⟩, rfl, hb⟩
      replace V := V.below hb
      clear hb
      clear l2 p20 p21 p22 p23 l1 p10 p11 p12 p13
      have H7 := Lib.hid h7
      clear h7
      replace V := V.push #[.bool n7, .int .u64 a7, .int .u64 b7, .int .i64 s7] 25
      obtain ⟨l2, p20, p21, p22, p23⟩ := HB.dec (t := 25) (g := x2.heap.size) (a := .bool n2) (b := .int .u64 a2) (c := .int .u64 b2) (d := .int .i64 s2) V (by simp)
      obtain ⟨l1, p10, p11, p12, p13⟩ := HB.dec (t := 25) (g := x1.heap.size) (a := .bool n1) (b := .int .u64 a1) (c := .int .u64 b1) (d := .int .i64 s1) V (by simp)
      go_wp2_with fail
      (with_reducible refine (rread_all l _ hl).mono ?_)
      rintro e x13 ⟨_, ⟨n7y, a7y, b7y, s7y, e7y, h7y, rfl⟩, rfl, hb⟩
      replace V := V.below hb
      clear hb
      clear l2 p20 p21 p22 p23 l1 p10 p11 p12 p13
      obtain ⟨rfl, rfl, rfl, rfl, rfl⟩ := tup_inj H7.out h7y
      clear h7y
      obtain ⟨l2, p20, p21, p22, p23⟩ := HB.dec (t := 25) (g := x2.heap.size) (a := .bool n2) (b := .int .u64 a2) (c := .int .u64 b2) (d := .int .i64 s2) V (by simp)
      obtain ⟨l1, p10, p11, p12, p13⟩ := HB.dec (t := 25) (g := x1.heap.size) (a := .bool n1) (b := .int .u64 a1) (c := .int .u64 b1) (d := .int .i64 s1) V (by simp)
      clear l2 p20 p21 p22 p23 l1 p10 p11 p12 p13
      replace V := V.push #[.bool n7, .int .u64 a7, .int .u64 b7, .int .i64 s7] 25
      obtain ⟨l2, p20, p21, p22, p23⟩ := HB.dec (t := 25) (g := x2.heap.size) (a := .bool n2) (b := .int .u64 a2) (c := .int .u64 b2) (d := .int .i64 s2) V (by simp)
      obtain ⟨l1, p10, p11, p12, p13⟩ := HB.dec (t := 25) (g := x1.heap.size) (a := .bool n1) (b := .int .u64 a1) (c := .int .u64 b1) (d := .int .i64 s1) V (by simp)
      clear l2 p20 p21 p22 p23 l1 p10 p11 p12 p13
      obtain ⟨n8, a8, b8, s8, h8⟩ := neg_form n1 a1 b1 s1
      have H8 := Lib.hid h8
      clear h8
      have q3 := eqW2_yes (a := a3) (b := b3) (c := a3) (d := b3) ⟨rfl, rfl⟩
      have q4 := eqW2_yes (a := a4) (b := b4) (c := a4) (d := b4) ⟨rfl, rfl⟩
      have q5 := eqW2_yes (a := a5) (b := b5) (c := a5) (d := b5) ⟨rfl, rfl⟩
      have q6 := eqW2_yes (a := a6) (b := b6) (c := a6) (d := b6) ⟨rfl, rfl⟩
      have q7 := eqW2_yes (a := a7) (b := b7) (c := a7) (d := b7) ⟨rfl, rfl⟩
      have q8 := eqW2_yes (a := a8) (b := b8) (c := a8) (d := b8) ⟨rfl, rfl⟩
      obtain ⟨r9, hr9⟩ : ∃ r, min (max ps 0) 9 = r := ⟨_, rfl⟩
      have HR9 := Lib.hid hr9
      clear hr9
      obtain ⟨r10, hr10⟩ : ∃ r, min (max (k - 2) 0) 9 = r := ⟨_, rfl⟩
      have HR10 := Lib.hid hr10
      clear hr10
      obtain ⟨n9, hn9⟩ : ∃ n, n = decide (pn < 0) := ⟨_, rfl⟩
      have HN9 := Lib.hid hn9
      clear hn9
      obtain ⟨a9, ha9⟩ : ∃ a, a = (pn.natAbs : Int) := ⟨_, rfl⟩
      have HA9 := Lib.hid ha9
      clear ha9
      have q9 := eqW2_yes (a := a9) (b := 0) (c := a9) (d := 0) ⟨rfl, rfl⟩
      obtain ⟨rg, hrg⟩ : ∃ b, decide (RightD n1 a1 b1 s1) = b := ⟨_, rfl⟩
      have HRG := Lib.hid hrg
      clear hrg
      obtain ⟨sg, hsg⟩ : ∃ c, signV n1 a1 b1 s1 = c := ⟨_, rfl⟩
      have HSG := Lib.hid hsg
      clear hsg
      obtain ⟨cm, hcm⟩ : ∃ c, cmpV n1 a1 b1 s1 n2 a2 b2 s2 = c := ⟨_, rfl⟩
      have HCM := Lib.hid hcm
      clear hcm
      obtain ⟨pv, hpv⟩ : ∃ p, printV n1 a1 b1 s1 = p := ⟨_, rfl⟩
      have HPV := Lib.hid hpv
      clear hpv
      go_upto_region 15 with fail
      as_aux_lemma =>
        refine wp_region_det (S := fun w' => HB w [(x13.heap.size, 25, #[.bool n7, .int .u64 a7, .int .u64 b7, .int .i64 s7]), (x12.heap.size, 25, #[.bool n7, .int .u64 a7, .int .u64 b7, .int .i64 s7]), (x10.heap.size, 25, #[.bool n6, .int .u64 a6, .int .u64 b6, .int .i64 s6]), (x9.heap.size, 25, #[.bool n5, .int .u64 a5, .int .u64 b5, .int .i64 s5]), (x8.heap.size, 25, #[.bool n4, .int .u64 a4, .int .u64 b4, .int .i64 s4]), (x7.heap.size, 25, #[.bool n3, .int .u64 a3, .int .u64 b3, .int .i64 s3]), (x6.heap.size, 25, #[.bool n6, .int .u64 a6, .int .u64 b6, .int .i64 s6]), (x5.heap.size, 25, #[.bool n5, .int .u64 a5, .int .u64 b5, .int .i64 s5]), (x4.heap.size, 25, #[.bool n4, .int .u64 a4, .int .u64 b4, .int .i64 s4]), (x3.heap.size, 25, #[.bool n3, .int .u64 a3, .int .u64 b3, .int .i64 s3]), (x2.heap.size, 25, #[.bool n2, .int .u64 a2, .int .u64 b2, .int .i64 s2]), (x1.heap.size, 25, #[.bool n1, .int .u64 a1, .int .u64 b1, .int .i64 s1])] w') (by kernel_rfl) (HB.drew V) ?_
        refine det_take (v := .bool true) (i := 0) (fuel := 106) (by simp; rfl) (by kernel_rfl) (by kernel_rfl) (by kernel_rfl) (Or.inl ⟨by rfl, fun w' hS => Or.inr ⟨17, #[], w', ?_, ?_⟩⟩) ?_
        · go_simp
          all_goals with_reducible rfl
        · exact (known_c mx _ (cell_keep (HB.bel hS) HM.out) (tabIs_below HT.out (HB.bel hS))).mono fun e w2 ⟨_, hv, he, hb⟩ => ⟨by rw [he, hv], HB.below hS hb⟩
        simp only [Act.put, List.setIfInBounds_toArray, List.set_cons_zero, List.set_cons_succ]
        refine det_take (v := ?_) (i := 1) (fuel := 105) (by simp; rfl) (by kernel_rfl) (by kernel_rfl) (by kernel_rfl) (Or.inl ⟨by rfl, fun w' hS => Or.inl ⟨w', ?_, hS⟩⟩) ?_
        rotate_left
        · go_simp
          all_goals with_reducible rfl
        simp only [Act.put, List.setIfInBounds_toArray, List.set_cons_zero, List.set_cons_succ]
        refine det_take (v := ?_) (i := 2) (fuel := 104) (by simp; rfl) (by kernel_rfl) (by kernel_rfl) (by kernel_rfl) (Or.inl ⟨by rfl, fun w' hS => Or.inl ⟨w', ?_, hS⟩⟩) ?_
        rotate_left
        · obtain ⟨-, c0, c1, c2, c3⟩ := HB.dec (t := 25) (g := x3.heap.size) (a := .bool n3) (b := .int .u64 a3) (c := .int .u64 b3) (d := .int .i64 s3) hS (by simp)
          go_simp
          all_goals with_reducible rfl
        simp only [Act.put, List.setIfInBounds_toArray, List.set_cons_zero, List.set_cons_succ]
        refine det_take (v := ?_) (i := 3) (fuel := 103) (by simp; rfl) (by kernel_rfl) (by kernel_rfl) (by kernel_rfl) (Or.inl ⟨by rfl, fun w' hS => Or.inl ⟨w', ?_, hS⟩⟩) ?_
        rotate_left
        · obtain ⟨-, c0, c1, c2, c3⟩ := HB.dec (t := 25) (g := x7.heap.size) (a := .bool n3) (b := .int .u64 a3) (c := .int .u64 b3) (d := .int .i64 s3) hS (by simp)
          go_simp
          all_goals with_reducible rfl
        simp only [Act.put, List.setIfInBounds_toArray, List.set_cons_zero, List.set_cons_succ]
        refine det_take (v := ?_) (i := 4) (fuel := 102) (by simp; rfl) (by kernel_rfl) (by kernel_rfl) (by kernel_rfl) (Or.inl ⟨by rfl, fun w' hS => Or.inl ⟨w', ?_, hS⟩⟩) ?_
        rotate_left
        · go_simp
          all_goals with_reducible rfl
        simp only [Act.put, List.setIfInBounds_toArray, List.set_cons_zero, List.set_cons_succ]
        refine det_take (v := ?_) (i := 5) (fuel := 101) (by simp; rfl) (by kernel_rfl) (by kernel_rfl) (by kernel_rfl) (Or.inl ⟨by rfl, fun w' hS => Or.inl ⟨w', ?_, hS⟩⟩) ?_
        rotate_left
        · go_simp
          all_goals with_reducible rfl
        simp only [Act.put, List.setIfInBounds_toArray, List.set_cons_zero, List.set_cons_succ]
        refine det_take (v := ?_) (i := 6) (fuel := 100) (by simp; rfl) (by kernel_rfl) (by kernel_rfl) (by kernel_rfl) (Or.inl ⟨by rfl, fun w' hS => Or.inl ⟨w', ?_, hS⟩⟩) ?_
        rotate_left
        · go_simp
          all_goals with_reducible rfl
        simp only [Act.put, List.setIfInBounds_toArray, List.set_cons_zero, List.set_cons_succ]
        refine det_take (v := ?_) (i := 7) (fuel := 99) (by simp; rfl) (by kernel_rfl) (by kernel_rfl) (by kernel_rfl) (Or.inl ⟨by rfl, fun w' hS => Or.inl ⟨w', ?_, hS⟩⟩) ?_
        rotate_left
        · go_simp
          all_goals with_reducible rfl
        simp only [Act.put, List.setIfInBounds_toArray, List.set_cons_zero, List.set_cons_succ]
        refine det_take (v := ?_) (i := 8) (fuel := 98) (by simp; rfl) (by kernel_rfl) (by kernel_rfl) (by kernel_rfl) (Or.inl ⟨by rfl, fun w' hS => Or.inl ⟨w', ?_, hS⟩⟩) ?_
        rotate_left
        · go_simp
          all_goals with_reducible rfl
        simp only [Act.put, List.setIfInBounds_toArray, List.set_cons_zero, List.set_cons_succ]
        refine det_take (v := ?_) (i := 9) (fuel := 97) (by simp; rfl) (by kernel_rfl) (by kernel_rfl) (by kernel_rfl) (Or.inl ⟨by rfl, fun w' hS => Or.inl ⟨w', ?_, hS⟩⟩) ?_
        rotate_left
        · go_simp
          all_goals with_reducible rfl
        simp only [Act.put, List.setIfInBounds_toArray, List.set_cons_zero, List.set_cons_succ]
        refine det_take (v := ?_) (i := 10) (fuel := 96) (by simp; rfl) (by kernel_rfl) (by kernel_rfl) (by kernel_rfl) (Or.inl ⟨by rfl, fun w' hS => Or.inl ⟨w', ?_, hS⟩⟩) ?_
        rotate_left
        · go_simp
          all_goals with_reducible rfl
        simp only [Act.put, List.setIfInBounds_toArray, List.set_cons_zero, List.set_cons_succ]
        refine det_take (v := ?_) (i := 11) (fuel := 95) (by simp; rfl) (by kernel_rfl) (by kernel_rfl) (by kernel_rfl) (Or.inl ⟨by rfl, fun w' hS => Or.inl ⟨w', ?_, hS⟩⟩) ?_
        rotate_left
        · go_simp
          all_goals with_reducible rfl
        simp only [Act.put, List.setIfInBounds_toArray, List.set_cons_zero, List.set_cons_succ]
        as_aux_lemma =>
          refine det_take (v := ?_) (i := 12) (fuel := 94) (by simp; rfl) (by kernel_rfl) (by kernel_rfl) (by kernel_rfl) (Or.inl ⟨by rfl, fun w' hS => Or.inl ⟨w', ?_, hS⟩⟩) ?_
          rotate_left
          · obtain ⟨-, c0, c1, c2, c3⟩ := HB.dec (t := 25) (g := x4.heap.size) (a := .bool n4) (b := .int .u64 a4) (c := .int .u64 b4) (d := .int .i64 s4) hS (by simp)
            go_simp
            all_goals with_reducible rfl
          simp only [Act.put, List.setIfInBounds_toArray, List.set_cons_zero, List.set_cons_succ]
          refine det_take (v := ?_) (i := 13) (fuel := 93) (by simp; rfl) (by kernel_rfl) (by kernel_rfl) (by kernel_rfl) (Or.inl ⟨by rfl, fun w' hS => Or.inl ⟨w', ?_, hS⟩⟩) ?_
          rotate_left
          · obtain ⟨-, c0, c1, c2, c3⟩ := HB.dec (t := 25) (g := x8.heap.size) (a := .bool n4) (b := .int .u64 a4) (c := .int .u64 b4) (d := .int .i64 s4) hS (by simp)
            go_simp
            all_goals with_reducible rfl
          simp only [Act.put, List.setIfInBounds_toArray, List.set_cons_zero, List.set_cons_succ]
          refine det_take (v := ?_) (i := 14) (fuel := 92) (by simp; rfl) (by kernel_rfl) (by kernel_rfl) (by kernel_rfl) (Or.inl ⟨by rfl, fun w' hS => Or.inl ⟨w', ?_, hS⟩⟩) ?_
          rotate_left
          · go_simp
            all_goals with_reducible rfl
          simp only [Act.put, List.setIfInBounds_toArray, List.set_cons_zero, List.set_cons_succ]
          refine det_take (v := ?_) (i := 15) (fuel := 91) (by simp; rfl) (by kernel_rfl) (by kernel_rfl) (by kernel_rfl) (Or.inl ⟨by rfl, fun w' hS => Or.inl ⟨w', ?_, hS⟩⟩) ?_
          rotate_left
          · go_simp
            all_goals with_reducible rfl
          simp only [Act.put, List.setIfInBounds_toArray, List.set_cons_zero, List.set_cons_succ]
          refine det_take (v := ?_) (i := 16) (fuel := 90) (by simp; rfl) (by kernel_rfl) (by kernel_rfl) (by kernel_rfl) (Or.inl ⟨by rfl, fun w' hS => Or.inl ⟨w', ?_, hS⟩⟩) ?_
          rotate_left
          · go_simp
            all_goals with_reducible rfl
          simp only [Act.put, List.setIfInBounds_toArray, List.set_cons_zero, List.set_cons_succ]
          refine det_take (v := ?_) (i := 17) (fuel := 89) (by simp; rfl) (by kernel_rfl) (by kernel_rfl) (by kernel_rfl) (Or.inl ⟨by rfl, fun w' hS => Or.inl ⟨w', ?_, hS⟩⟩) ?_
          rotate_left
          · go_simp
            all_goals with_reducible rfl
          simp only [Act.put, List.setIfInBounds_toArray, List.set_cons_zero, List.set_cons_succ]
          refine det_take (v := ?_) (i := 18) (fuel := 88) (by simp; rfl) (by kernel_rfl) (by kernel_rfl) (by kernel_rfl) (Or.inl ⟨by rfl, fun w' hS => Or.inl ⟨w', ?_, hS⟩⟩) ?_
          rotate_left
          · go_simp
            all_goals with_reducible rfl
          simp only [Act.put, List.setIfInBounds_toArray, List.set_cons_zero, List.set_cons_succ]
          refine det_take (v := ?_) (i := 19) (fuel := 87) (by simp; rfl) (by kernel_rfl) (by kernel_rfl) (by kernel_rfl) (Or.inl ⟨by rfl, fun w' hS => Or.inl ⟨w', ?_, hS⟩⟩) ?_
          rotate_left
          · go_simp
            all_goals with_reducible rfl
          simp only [Act.put, List.setIfInBounds_toArray, List.set_cons_zero, List.set_cons_succ]
          refine det_take (v := ?_) (i := 20) (fuel := 86) (by simp; rfl) (by kernel_rfl) (by kernel_rfl) (by kernel_rfl) (Or.inl ⟨by rfl, fun w' hS => Or.inl ⟨w', ?_, hS⟩⟩) ?_
          rotate_left
          · go_simp
            all_goals with_reducible rfl
          simp only [Act.put, List.setIfInBounds_toArray, List.set_cons_zero, List.set_cons_succ]
          refine det_take (v := ?_) (i := 21) (fuel := 85) (by simp; rfl) (by kernel_rfl) (by kernel_rfl) (by kernel_rfl) (Or.inl ⟨by rfl, fun w' hS => Or.inl ⟨w', ?_, hS⟩⟩) ?_
          rotate_left
          · go_simp
            all_goals with_reducible rfl
          simp only [Act.put, List.setIfInBounds_toArray, List.set_cons_zero, List.set_cons_succ]
          refine det_take (v := ?_) (i := 22) (fuel := 84) (by simp; rfl) (by kernel_rfl) (by kernel_rfl) (by kernel_rfl) (Or.inl ⟨by rfl, fun w' hS => Or.inl ⟨w', ?_, hS⟩⟩) ?_
          rotate_left
          · obtain ⟨-, c0, c1, c2, c3⟩ := HB.dec (t := 25) (g := x5.heap.size) (a := .bool n5) (b := .int .u64 a5) (c := .int .u64 b5) (d := .int .i64 s5) hS (by simp)
            go_simp
            all_goals with_reducible rfl
          simp only [Act.put, List.setIfInBounds_toArray, List.set_cons_zero, List.set_cons_succ]
          refine det_take (v := ?_) (i := 23) (fuel := 83) (by simp; rfl) (by kernel_rfl) (by kernel_rfl) (by kernel_rfl) (Or.inl ⟨by rfl, fun w' hS => Or.inl ⟨w', ?_, hS⟩⟩) ?_
          rotate_left
          · obtain ⟨-, c0, c1, c2, c3⟩ := HB.dec (t := 25) (g := x9.heap.size) (a := .bool n5) (b := .int .u64 a5) (c := .int .u64 b5) (d := .int .i64 s5) hS (by simp)
            go_simp
            all_goals with_reducible rfl
          simp only [Act.put, List.setIfInBounds_toArray, List.set_cons_zero, List.set_cons_succ]
          as_aux_lemma =>
            refine det_take (v := ?_) (i := 24) (fuel := 82) (by simp; rfl) (by kernel_rfl) (by kernel_rfl) (by kernel_rfl) (Or.inl ⟨by rfl, fun w' hS => Or.inl ⟨w', ?_, hS⟩⟩) ?_
            rotate_left
            · go_simp
              all_goals with_reducible rfl
            simp only [Act.put, List.setIfInBounds_toArray, List.set_cons_zero, List.set_cons_succ]
            refine det_take (v := ?_) (i := 25) (fuel := 81) (by simp; rfl) (by kernel_rfl) (by kernel_rfl) (by kernel_rfl) (Or.inl ⟨by rfl, fun w' hS => Or.inl ⟨w', ?_, hS⟩⟩) ?_
            rotate_left
            · go_simp
              all_goals with_reducible rfl
            simp only [Act.put, List.setIfInBounds_toArray, List.set_cons_zero, List.set_cons_succ]
            refine det_take (v := ?_) (i := 26) (fuel := 80) (by simp; rfl) (by kernel_rfl) (by kernel_rfl) (by kernel_rfl) (Or.inl ⟨by rfl, fun w' hS => Or.inl ⟨w', ?_, hS⟩⟩) ?_
            rotate_left
            · go_simp
              all_goals with_reducible rfl
            simp only [Act.put, List.setIfInBounds_toArray, List.set_cons_zero, List.set_cons_succ]
            refine det_take (v := ?_) (i := 27) (fuel := 79) (by simp; rfl) (by kernel_rfl) (by kernel_rfl) (by kernel_rfl) (Or.inl ⟨by rfl, fun w' hS => Or.inl ⟨w', ?_, hS⟩⟩) ?_
            rotate_left
            · go_simp
              all_goals with_reducible rfl
            simp only [Act.put, List.setIfInBounds_toArray, List.set_cons_zero, List.set_cons_succ]
            refine det_take (v := ?_) (i := 28) (fuel := 78) (by simp; rfl) (by kernel_rfl) (by kernel_rfl) (by kernel_rfl) (Or.inl ⟨by rfl, fun w' hS => Or.inl ⟨w', ?_, hS⟩⟩) ?_
            rotate_left
            · go_simp
              all_goals with_reducible rfl
            simp only [Act.put, List.setIfInBounds_toArray, List.set_cons_zero, List.set_cons_succ]
            refine det_take (v := ?_) (i := 29) (fuel := 77) (by simp; rfl) (by kernel_rfl) (by kernel_rfl) (by kernel_rfl) (Or.inl ⟨by rfl, fun w' hS => Or.inl ⟨w', ?_, hS⟩⟩) ?_
            rotate_left
            · go_simp
              all_goals with_reducible rfl
            simp only [Act.put, List.setIfInBounds_toArray, List.set_cons_zero, List.set_cons_succ]
            refine det_take (v := ?_) (i := 30) (fuel := 76) (by simp; rfl) (by kernel_rfl) (by kernel_rfl) (by kernel_rfl) (Or.inl ⟨by rfl, fun w' hS => Or.inl ⟨w', ?_, hS⟩⟩) ?_
            rotate_left
            · go_simp
              all_goals with_reducible rfl
            simp only [Act.put, List.setIfInBounds_toArray, List.set_cons_zero, List.set_cons_succ]
            refine det_take (v := ?_) (i := 31) (fuel := 75) (by simp; rfl) (by kernel_rfl) (by kernel_rfl) (by kernel_rfl) (Or.inl ⟨by rfl, fun w' hS => Or.inl ⟨w', ?_, hS⟩⟩) ?_
            rotate_left
            · go_simp
              all_goals with_reducible rfl
            simp only [Act.put, List.setIfInBounds_toArray, List.set_cons_zero, List.set_cons_succ]
            refine det_take (v := ?_) (i := 32) (fuel := 74) (by simp; rfl) (by kernel_rfl) (by kernel_rfl) (by kernel_rfl) (Or.inl ⟨by rfl, fun w' hS => Or.inl ⟨w', ?_, hS⟩⟩) ?_
            rotate_left
            · obtain ⟨-, c0, c1, c2, c3⟩ := HB.dec (t := 25) (g := x6.heap.size) (a := .bool n6) (b := .int .u64 a6) (c := .int .u64 b6) (d := .int .i64 s6) hS (by simp)
              go_simp
              all_goals with_reducible rfl
            simp only [Act.put, List.setIfInBounds_toArray, List.set_cons_zero, List.set_cons_succ]
            refine det_take (v := ?_) (i := 33) (fuel := 73) (by simp; rfl) (by kernel_rfl) (by kernel_rfl) (by kernel_rfl) (Or.inl ⟨by rfl, fun w' hS => Or.inl ⟨w', ?_, hS⟩⟩) ?_
            rotate_left
            · obtain ⟨-, c0, c1, c2, c3⟩ := HB.dec (t := 25) (g := x10.heap.size) (a := .bool n6) (b := .int .u64 a6) (c := .int .u64 b6) (d := .int .i64 s6) hS (by simp)
              go_simp
              all_goals with_reducible rfl
            simp only [Act.put, List.setIfInBounds_toArray, List.set_cons_zero, List.set_cons_succ]
            refine det_take (v := ?_) (i := 34) (fuel := 72) (by simp; rfl) (by kernel_rfl) (by kernel_rfl) (by kernel_rfl) (Or.inl ⟨by rfl, fun w' hS => Or.inl ⟨w', ?_, hS⟩⟩) ?_
            rotate_left
            · go_simp
              all_goals with_reducible rfl
            simp only [Act.put, List.setIfInBounds_toArray, List.set_cons_zero, List.set_cons_succ]
            refine det_take (v := ?_) (i := 35) (fuel := 71) (by simp; rfl) (by kernel_rfl) (by kernel_rfl) (by kernel_rfl) (Or.inl ⟨by rfl, fun w' hS => Or.inl ⟨w', ?_, hS⟩⟩) ?_
            rotate_left
            · go_simp
              all_goals with_reducible rfl
            simp only [Act.put, List.setIfInBounds_toArray, List.set_cons_zero, List.set_cons_succ]
            as_aux_lemma =>
              refine det_take (v := ?_) (i := 36) (fuel := 70) (by simp; rfl) (by kernel_rfl) (by kernel_rfl) (by kernel_rfl) (Or.inl ⟨by rfl, fun w' hS => Or.inl ⟨w', ?_, hS⟩⟩) ?_
              rotate_left
              · go_simp
                all_goals with_reducible rfl
              simp only [Act.put, List.setIfInBounds_toArray, List.set_cons_zero, List.set_cons_succ]
              refine det_take (v := ?_) (i := 37) (fuel := 69) (by simp; rfl) (by kernel_rfl) (by kernel_rfl) (by kernel_rfl) (Or.inl ⟨by rfl, fun w' hS => Or.inl ⟨w', ?_, hS⟩⟩) ?_
              rotate_left
              · go_simp
                all_goals with_reducible rfl
              simp only [Act.put, List.setIfInBounds_toArray, List.set_cons_zero, List.set_cons_succ]
              refine det_take (v := ?_) (i := 38) (fuel := 68) (by simp; rfl) (by kernel_rfl) (by kernel_rfl) (by kernel_rfl) (Or.inl ⟨by rfl, fun w' hS => Or.inl ⟨w', ?_, hS⟩⟩) ?_
              rotate_left
              · go_simp
                all_goals with_reducible rfl
              simp only [Act.put, List.setIfInBounds_toArray, List.set_cons_zero, List.set_cons_succ]
              refine det_take (v := ?_) (i := 39) (fuel := 67) (by simp; rfl) (by kernel_rfl) (by kernel_rfl) (by kernel_rfl) (Or.inl ⟨by rfl, fun w' hS => Or.inl ⟨w', ?_, hS⟩⟩) ?_
              rotate_left
              · go_simp
                all_goals with_reducible rfl
              simp only [Act.put, List.setIfInBounds_toArray, List.set_cons_zero, List.set_cons_succ]
              refine det_take (v := ?_) (i := 40) (fuel := 66) (by simp; rfl) (by kernel_rfl) (by kernel_rfl) (by kernel_rfl) (Or.inl ⟨by rfl, fun w' hS => Or.inl ⟨w', ?_, hS⟩⟩) ?_
              rotate_left
              · go_simp
                all_goals with_reducible rfl
              simp only [Act.put, List.setIfInBounds_toArray, List.set_cons_zero, List.set_cons_succ]
              refine det_take (v := ?_) (i := 41) (fuel := 65) (by simp; rfl) (by kernel_rfl) (by kernel_rfl) (by kernel_rfl) (Or.inl ⟨by rfl, fun w' hS => Or.inl ⟨w', ?_, hS⟩⟩) ?_
              rotate_left
              · go_simp
                all_goals with_reducible rfl
              simp only [Act.put, List.setIfInBounds_toArray, List.set_cons_zero, List.set_cons_succ]
              refine det_take (v := ?_) (i := 42) (fuel := 64) (by simp; rfl) (by kernel_rfl) (by kernel_rfl) (by kernel_rfl) (Or.inl ⟨by rfl, fun w' hS => Or.inl ⟨w', ?_, hS⟩⟩) ?_
              rotate_left
              · obtain ⟨-, c0, c1, c2, c3⟩ := HB.dec (t := 25) (g := x12.heap.size) (a := .bool n7) (b := .int .u64 a7) (c := .int .u64 b7) (d := .int .i64 s7) hS (by simp)
                go_simp
                all_goals with_reducible rfl
              simp only [Act.put, List.setIfInBounds_toArray, List.set_cons_zero, List.set_cons_succ]
              refine det_take (v := ?_) (i := 43) (fuel := 63) (by simp; rfl) (by kernel_rfl) (by kernel_rfl) (by kernel_rfl) (Or.inl ⟨by rfl, fun w' hS => Or.inl ⟨w', ?_, hS⟩⟩) ?_
              rotate_left
              · obtain ⟨-, c0, c1, c2, c3⟩ := HB.dec (t := 25) (g := x13.heap.size) (a := .bool n7) (b := .int .u64 a7) (c := .int .u64 b7) (d := .int .i64 s7) hS (by simp)
                go_simp
                all_goals with_reducible rfl
              simp only [Act.put, List.setIfInBounds_toArray, List.set_cons_zero, List.set_cons_succ]
              refine det_take (v := ?_) (i := 44) (fuel := 62) (by simp; rfl) (by kernel_rfl) (by kernel_rfl) (by kernel_rfl) (Or.inl ⟨by rfl, fun w' hS => Or.inl ⟨w', ?_, hS⟩⟩) ?_
              rotate_left
              · go_simp
                all_goals with_reducible rfl
              simp only [Act.put, List.setIfInBounds_toArray, List.set_cons_zero, List.set_cons_succ]
              refine det_take (v := ?_) (i := 45) (fuel := 61) (by simp; rfl) (by kernel_rfl) (by kernel_rfl) (by kernel_rfl) (Or.inl ⟨by rfl, fun w' hS => Or.inl ⟨w', ?_, hS⟩⟩) ?_
              rotate_left
              · go_simp
                all_goals with_reducible rfl
              simp only [Act.put, List.setIfInBounds_toArray, List.set_cons_zero, List.set_cons_succ]
              refine det_take (v := ?_) (i := 46) (fuel := 60) (by simp; rfl) (by kernel_rfl) (by kernel_rfl) (by kernel_rfl) (Or.inl ⟨by rfl, fun w' hS => Or.inl ⟨w', ?_, hS⟩⟩) ?_
              rotate_left
              · go_simp
                all_goals with_reducible rfl
              simp only [Act.put, List.setIfInBounds_toArray, List.set_cons_zero, List.set_cons_succ]
              refine det_take (v := ?_) (i := 47) (fuel := 59) (by simp; rfl) (by kernel_rfl) (by kernel_rfl) (by kernel_rfl) (Or.inl ⟨by rfl, fun w' hS => Or.inl ⟨w', ?_, hS⟩⟩) ?_
              rotate_left
              · go_simp
                all_goals with_reducible rfl
              simp only [Act.put, List.setIfInBounds_toArray, List.set_cons_zero, List.set_cons_succ]
              as_aux_lemma =>
                refine det_take (v := ?_) (i := 48) (fuel := 58) (by simp; rfl) (by kernel_rfl) (by kernel_rfl) (by kernel_rfl) (Or.inl ⟨by rfl, fun w' hS => Or.inl ⟨w', ?_, hS⟩⟩) ?_
                rotate_left
                · go_simp
                  all_goals with_reducible rfl
                simp only [Act.put, List.setIfInBounds_toArray, List.set_cons_zero, List.set_cons_succ]
                refine det_take (v := ?_) (i := 49) (fuel := 57) (by simp; rfl) (by kernel_rfl) (by kernel_rfl) (by kernel_rfl) (Or.inl ⟨by rfl, fun w' hS => Or.inl ⟨w', ?_, hS⟩⟩) ?_
                rotate_left
                · go_simp
                  all_goals with_reducible rfl
                simp only [Act.put, List.setIfInBounds_toArray, List.set_cons_zero, List.set_cons_succ]
                refine det_take (v := ?_) (i := 50) (fuel := 56) (by simp; rfl) (by kernel_rfl) (by kernel_rfl) (by kernel_rfl) (Or.inl ⟨by rfl, fun w' hS => Or.inl ⟨w', ?_, hS⟩⟩) ?_
                rotate_left
                · go_simp
                  all_goals with_reducible rfl
                simp only [Act.put, List.setIfInBounds_toArray, List.set_cons_zero, List.set_cons_succ]
                refine det_take (v := ?_) (i := 51) (fuel := 55) (by simp; rfl) (by kernel_rfl) (by kernel_rfl) (by kernel_rfl) (Or.inl ⟨by rfl, fun w' hS => Or.inl ⟨w', ?_, hS⟩⟩) ?_
                rotate_left
                · go_simp
                  all_goals with_reducible rfl
                simp only [Act.put, List.setIfInBounds_toArray, List.set_cons_zero, List.set_cons_succ]
                refine det_take (v := ?_) (i := 52) (fuel := 54) (by simp; rfl) (by kernel_rfl) (by kernel_rfl) (by kernel_rfl) (Or.inl ⟨by rfl, fun w' hS => Or.inl ⟨w', ?_, hS⟩⟩) ?_
                rotate_left
                · obtain ⟨-, c0, c1, c2, c3⟩ := HB.dec (t := 25) (g := x1.heap.size) (a := .bool n1) (b := .int .u64 a1) (c := .int .u64 b1) (d := .int .i64 s1) hS (by simp)
                  go_simp
                  all_goals with_reducible rfl
                simp only [Act.put, List.setIfInBounds_toArray, List.set_cons_zero, List.set_cons_succ]
                refine det_take (v := .bool rg) (i := 53) (fuel := 53) (by simp; rfl) (by kernel_rfl) (by kernel_rfl) (by kernel_rfl) (Or.inl ⟨by rfl, fun w' hS => Or.inr ⟨18, #[.agg #[.bool n1, .int .u64 a1, .int .u64 b1, .int .i64 s1]], w', ?_, ?_⟩⟩) ?_
                · go_simp
                  all_goals with_reducible rfl
                · exact (right_v n1 a1 b1 s1 rg _ ua1 ub1 HRG.out).mono fun e w2 ⟨_, hv, he, hb⟩ => ⟨by rw [he, hv], HB.below hS hb⟩
                simp only [Act.put, List.setIfInBounds_toArray, List.set_cons_zero, List.set_cons_succ]
                refine det_take (v := ?_) (i := 54) (fuel := 52) (by simp; rfl) (by kernel_rfl) (by kernel_rfl) (by kernel_rfl) (Or.inl ⟨by rfl, fun w' hS => Or.inl ⟨w', ?_, hS⟩⟩) ?_
                rotate_left
                · obtain ⟨-, c0, c1, c2, c3⟩ := HB.dec (t := 25) (g := x1.heap.size) (a := .bool n1) (b := .int .u64 a1) (c := .int .u64 b1) (d := .int .i64 s1) hS (by simp)
                  go_simp
                  all_goals with_reducible rfl
                simp only [Act.put, List.setIfInBounds_toArray, List.set_cons_zero, List.set_cons_succ]
                refine det_take (v := .bool rg) (i := 55) (fuel := 51) (by simp; rfl) (by kernel_rfl) (by kernel_rfl) (by kernel_rfl) (Or.inl ⟨by rfl, fun w' hS => Or.inr ⟨19, #[.agg #[.bool n1, .int .u64 a1, .int .u64 b1, .int .i64 s1]], w', ?_, ?_⟩⟩) ?_
                · go_simp
                  all_goals with_reducible rfl
                · exact (rdec_v n1 a1 b1 s1 rg _ ua1 ub1 HRG.out).mono fun e w2 ⟨_, hv, he, hb⟩ => ⟨by rw [he, hv], HB.below hS hb⟩
                simp only [Act.put, List.setIfInBounds_toArray, List.set_cons_zero, List.set_cons_succ]
                refine det_take (v := ?_) (i := 56) (fuel := 50) (by simp; rfl) (by kernel_rfl) (by kernel_rfl) (by kernel_rfl) (Or.inl ⟨by rfl, fun w' hS => Or.inl ⟨w', ?_, hS⟩⟩) ?_
                rotate_left
                · go_simp
                  all_goals with_reducible rfl
                simp only [Act.put, List.setIfInBounds_toArray, List.set_cons_zero, List.set_cons_succ]
                refine det_take (v := ?_) (i := 57) (fuel := 49) (by simp; rfl) (by kernel_rfl) (by kernel_rfl) (by kernel_rfl) (Or.inl ⟨by rfl, fun w' hS => Or.inl ⟨w', ?_, hS⟩⟩) ?_
                rotate_left
                · go_simp
                  all_goals with_reducible rfl
                simp only [Act.put, List.setIfInBounds_toArray, List.set_cons_zero, List.set_cons_succ]
                refine det_take (v := ?_) (i := 58) (fuel := 48) (by simp; rfl) (by kernel_rfl) (by kernel_rfl) (by kernel_rfl) (Or.inl ⟨by rfl, fun w' hS => Or.inl ⟨w', ?_, hS⟩⟩) ?_
                rotate_left
                · go_simp
                  all_goals with_reducible rfl
                simp only [Act.put, List.setIfInBounds_toArray, List.set_cons_zero, List.set_cons_succ]
                refine det_take (v := ?_) (i := 59) (fuel := 47) (by simp; rfl) (by kernel_rfl) (by kernel_rfl) (by kernel_rfl) (Or.inl ⟨by rfl, fun w' hS => Or.inl ⟨w', ?_, hS⟩⟩) ?_
                rotate_left
                · obtain ⟨-, c0, c1, c2, c3⟩ := HB.dec (t := 25) (g := x1.heap.size) (a := .bool n1) (b := .int .u64 a1) (c := .int .u64 b1) (d := .int .i64 s1) hS (by simp)
                  go_simp
                  all_goals with_reducible rfl
                simp only [Act.put, List.setIfInBounds_toArray, List.set_cons_zero, List.set_cons_succ]
                as_aux_lemma =>
                  refine det_take (v := .agg #[.bool n8, .int .u64 a8, .int .u64 b8, .int .i64 s8]) (i := 60) (fuel := 46) (by simp; rfl) (by kernel_rfl) (by kernel_rfl) (by kernel_rfl) (Or.inl ⟨by rfl, fun w' hS => Or.inr ⟨20, #[.agg #[.bool n1, .int .u64 a1, .int .u64 b1, .int .i64 s1]], w', ?_, ?_⟩⟩) ?_
                  · go_simp
                    all_goals with_reducible rfl
                  · exact (negD_v n1 a1 b1 s1 n8 a8 b8 s8 _ ua1 ub1 H8.out).mono fun e w2 ⟨_, hv, he, hb⟩ => ⟨by rw [he, hv], HB.below hS hb⟩
                  simp only [Act.put, List.setIfInBounds_toArray, List.set_cons_zero, List.set_cons_succ]
                  refine det_take (v := ?_) (i := 61) (fuel := 45) (by simp; rfl) (by kernel_rfl) (by kernel_rfl) (by kernel_rfl) (Or.inl ⟨by rfl, fun w' hS => Or.inl ⟨w', ?_, hS⟩⟩) ?_
                  rotate_left
                  · obtain ⟨-, c0, c1, c2, c3⟩ := HB.dec (t := 25) (g := x1.heap.size) (a := .bool n1) (b := .int .u64 a1) (c := .int .u64 b1) (d := .int .i64 s1) hS (by simp)
                    go_simp
                    all_goals with_reducible rfl
                  simp only [Act.put, List.setIfInBounds_toArray, List.set_cons_zero, List.set_cons_succ]
                  refine det_take (v := .agg #[.bool n8, .int .u64 a8, .int .u64 b8, .int .i64 s8]) (i := 62) (fuel := 44) (by simp; rfl) (by kernel_rfl) (by kernel_rfl) (by kernel_rfl) (Or.inl ⟨by rfl, fun w' hS => Or.inr ⟨21, #[.agg #[.bool n1, .int .u64 a1, .int .u64 b1, .int .i64 s1]], w', ?_, ?_⟩⟩) ?_
                  · go_simp
                    all_goals with_reducible rfl
                  · exact (rnegD_v n1 a1 b1 s1 n8 a8 b8 s8 _ ua1 ub1 H8.out).mono fun e w2 ⟨_, hv, he, hb⟩ => ⟨by rw [he, hv], HB.below hS hb⟩
                  simp only [Act.put, List.setIfInBounds_toArray, List.set_cons_zero, List.set_cons_succ]
                  refine det_take (v := ?_) (i := 63) (fuel := 43) (by simp; rfl) (by kernel_rfl) (by kernel_rfl) (by kernel_rfl) (Or.inl ⟨by rfl, fun w' hS => Or.inl ⟨w', ?_, hS⟩⟩) ?_
                  rotate_left
                  · go_simp
                    all_goals with_reducible rfl
                  simp only [Act.put, List.setIfInBounds_toArray, List.set_cons_zero, List.set_cons_succ]
                  refine det_take (v := ?_) (i := 64) (fuel := 42) (by simp; rfl) (by kernel_rfl) (by kernel_rfl) (by kernel_rfl) (Or.inl ⟨by rfl, fun w' hS => Or.inl ⟨w', ?_, hS⟩⟩) ?_
                  rotate_left
                  · go_simp
                    all_goals with_reducible rfl
                  simp only [Act.put, List.setIfInBounds_toArray, List.set_cons_zero, List.set_cons_succ]
                  refine det_take (v := ?_) (i := 65) (fuel := 41) (by simp; rfl) (by kernel_rfl) (by kernel_rfl) (by kernel_rfl) (Or.inl ⟨by rfl, fun w' hS => Or.inl ⟨w', ?_, hS⟩⟩) ?_
                  rotate_left
                  · go_simp
                    all_goals with_reducible rfl
                  simp only [Act.put, List.setIfInBounds_toArray, List.set_cons_zero, List.set_cons_succ]
                  refine det_take (v := ?_) (i := 66) (fuel := 40) (by simp; rfl) (by kernel_rfl) (by kernel_rfl) (by kernel_rfl) (Or.inl ⟨by rfl, fun w' hS => Or.inl ⟨w', ?_, hS⟩⟩) ?_
                  rotate_left
                  · obtain ⟨-, c0, c1, c2, c3⟩ := HB.dec (t := 25) (g := x1.heap.size) (a := .bool n1) (b := .int .u64 a1) (c := .int .u64 b1) (d := .int .i64 s1) hS (by simp)
                    go_simp
                    all_goals with_reducible rfl
                  simp only [Act.put, List.setIfInBounds_toArray, List.set_cons_zero, List.set_cons_succ]
                  refine det_take (v := .int .i64 sg) (i := 67) (fuel := 39) (by simp; rfl) (by kernel_rfl) (by kernel_rfl) (by kernel_rfl) (Or.inl ⟨by rfl, fun w' hS => Or.inr ⟨22, #[.agg #[.bool n1, .int .u64 a1, .int .u64 b1, .int .i64 s1]], w', ?_, ?_⟩⟩) ?_
                  · go_simp
                    all_goals with_reducible rfl
                  · exact (signD_v n1 a1 b1 s1 sg _ ua1 ub1 HSG.out).mono fun e w2 ⟨_, hv, he, hb⟩ => ⟨by rw [he, hv], HB.below hS hb⟩
                  simp only [Act.put, List.setIfInBounds_toArray, List.set_cons_zero, List.set_cons_succ]
                  refine det_take (v := ?_) (i := 68) (fuel := 38) (by simp; rfl) (by kernel_rfl) (by kernel_rfl) (by kernel_rfl) (Or.inl ⟨by rfl, fun w' hS => Or.inl ⟨w', ?_, hS⟩⟩) ?_
                  rotate_left
                  · obtain ⟨-, c0, c1, c2, c3⟩ := HB.dec (t := 25) (g := x1.heap.size) (a := .bool n1) (b := .int .u64 a1) (c := .int .u64 b1) (d := .int .i64 s1) hS (by simp)
                    go_simp
                    all_goals with_reducible rfl
                  simp only [Act.put, List.setIfInBounds_toArray, List.set_cons_zero, List.set_cons_succ]
                  refine det_take (v := .int .i64 sg) (i := 69) (fuel := 37) (by simp; rfl) (by kernel_rfl) (by kernel_rfl) (by kernel_rfl) (Or.inl ⟨by rfl, fun w' hS => Or.inr ⟨23, #[.agg #[.bool n1, .int .u64 a1, .int .u64 b1, .int .i64 s1]], w', ?_, ?_⟩⟩) ?_
                  · go_simp
                    all_goals with_reducible rfl
                  · exact (rsign_v n1 a1 b1 s1 sg _ ua1 ub1 HSG.out).mono fun e w2 ⟨_, hv, he, hb⟩ => ⟨by rw [he, hv], HB.below hS hb⟩
                  simp only [Act.put, List.setIfInBounds_toArray, List.set_cons_zero, List.set_cons_succ]
                  refine det_take (v := ?_) (i := 70) (fuel := 36) (by simp; rfl) (by kernel_rfl) (by kernel_rfl) (by kernel_rfl) (Or.inl ⟨by rfl, fun w' hS => Or.inl ⟨w', ?_, hS⟩⟩) ?_
                  rotate_left
                  · go_simp
                    all_goals with_reducible rfl
                  simp only [Act.put, List.setIfInBounds_toArray, List.set_cons_zero, List.set_cons_succ]
                  refine det_take (v := ?_) (i := 71) (fuel := 35) (by simp; rfl) (by kernel_rfl) (by kernel_rfl) (by kernel_rfl) (Or.inl ⟨by rfl, fun w' hS => Or.inl ⟨w', ?_, hS⟩⟩) ?_
                  rotate_left
                  · go_simp
                    all_goals with_reducible rfl
                  simp only [Act.put, List.setIfInBounds_toArray, List.set_cons_zero, List.set_cons_succ]
                  as_aux_lemma =>
                    refine det_take (v := ?_) (i := 72) (fuel := 34) (by simp; rfl) (by kernel_rfl) (by kernel_rfl) (by kernel_rfl) (Or.inl ⟨by rfl, fun w' hS => Or.inl ⟨w', ?_, hS⟩⟩) ?_
                    rotate_left
                    · go_simp
                      all_goals with_reducible rfl
                    simp only [Act.put, List.setIfInBounds_toArray, List.set_cons_zero, List.set_cons_succ]
                    refine det_take (v := ?_) (i := 73) (fuel := 33) (by simp; rfl) (by kernel_rfl) (by kernel_rfl) (by kernel_rfl) (Or.inl ⟨by rfl, fun w' hS => Or.inl ⟨w', ?_, hS⟩⟩) ?_
                    rotate_left
                    · obtain ⟨-, c0, c1, c2, c3⟩ := HB.dec (t := 25) (g := x1.heap.size) (a := .bool n1) (b := .int .u64 a1) (c := .int .u64 b1) (d := .int .i64 s1) hS (by simp)
                      go_simp
                      all_goals with_reducible rfl
                    simp only [Act.put, List.setIfInBounds_toArray, List.set_cons_zero, List.set_cons_succ]
                    refine det_take (v := ?_) (i := 74) (fuel := 32) (by simp; rfl) (by kernel_rfl) (by kernel_rfl) (by kernel_rfl) (Or.inl ⟨by rfl, fun w' hS => Or.inl ⟨w', ?_, hS⟩⟩) ?_
                    rotate_left
                    · obtain ⟨-, c0, c1, c2, c3⟩ := HB.dec (t := 25) (g := x2.heap.size) (a := .bool n2) (b := .int .u64 a2) (c := .int .u64 b2) (d := .int .i64 s2) hS (by simp)
                      go_simp
                      all_goals with_reducible rfl
                    simp only [Act.put, List.setIfInBounds_toArray, List.set_cons_zero, List.set_cons_succ]
                    refine det_take (v := .int .i64 cm) (i := 75) (fuel := 31) (by simp; rfl) (by kernel_rfl) (by kernel_rfl) (by kernel_rfl) (Or.inl ⟨by rfl, fun w' hS => Or.inr ⟨24, #[.agg #[.bool n1, .int .u64 a1, .int .u64 b1, .int .i64 s1], .agg #[.bool n2, .int .u64 a2, .int .u64 b2, .int .i64 s2]], w', ?_, ?_⟩⟩) ?_
                    · go_simp
                      all_goals with_reducible rfl
                    · exact (cmpD_v n1 a1 b1 s1 n2 a2 b2 s2 cm _ ua1 ub1 ua2 ub2 HCM.out).mono fun e w2 ⟨_, hv, he, hb⟩ => ⟨by rw [he, hv], HB.below hS hb⟩
                    simp only [Act.put, List.setIfInBounds_toArray, List.set_cons_zero, List.set_cons_succ]
                    refine det_take (v := ?_) (i := 76) (fuel := 30) (by simp; rfl) (by kernel_rfl) (by kernel_rfl) (by kernel_rfl) (Or.inl ⟨by rfl, fun w' hS => Or.inl ⟨w', ?_, hS⟩⟩) ?_
                    rotate_left
                    · obtain ⟨-, c0, c1, c2, c3⟩ := HB.dec (t := 25) (g := x1.heap.size) (a := .bool n1) (b := .int .u64 a1) (c := .int .u64 b1) (d := .int .i64 s1) hS (by simp)
                      go_simp
                      all_goals with_reducible rfl
                    simp only [Act.put, List.setIfInBounds_toArray, List.set_cons_zero, List.set_cons_succ]
                    refine det_take (v := ?_) (i := 77) (fuel := 29) (by simp; rfl) (by kernel_rfl) (by kernel_rfl) (by kernel_rfl) (Or.inl ⟨by rfl, fun w' hS => Or.inl ⟨w', ?_, hS⟩⟩) ?_
                    rotate_left
                    · obtain ⟨-, c0, c1, c2, c3⟩ := HB.dec (t := 25) (g := x2.heap.size) (a := .bool n2) (b := .int .u64 a2) (c := .int .u64 b2) (d := .int .i64 s2) hS (by simp)
                      go_simp
                      all_goals with_reducible rfl
                    simp only [Act.put, List.setIfInBounds_toArray, List.set_cons_zero, List.set_cons_succ]
                    refine det_take (v := .int .i64 cm) (i := 78) (fuel := 28) (by simp; rfl) (by kernel_rfl) (by kernel_rfl) (by kernel_rfl) (Or.inl ⟨by rfl, fun w' hS => Or.inr ⟨25, #[.agg #[.bool n1, .int .u64 a1, .int .u64 b1, .int .i64 s1], .agg #[.bool n2, .int .u64 a2, .int .u64 b2, .int .i64 s2]], w', ?_, ?_⟩⟩) ?_
                    · go_simp
                      all_goals with_reducible rfl
                    · exact (rcmpD_v n1 a1 b1 s1 n2 a2 b2 s2 cm _ ua1 ub1 ua2 ub2 HCM.out).mono fun e w2 ⟨_, hv, he, hb⟩ => ⟨by rw [he, hv], HB.below hS hb⟩
                    simp only [Act.put, List.setIfInBounds_toArray, List.set_cons_zero, List.set_cons_succ]
                    refine det_take (v := ?_) (i := 79) (fuel := 27) (by simp; rfl) (by kernel_rfl) (by kernel_rfl) (by kernel_rfl) (Or.inl ⟨by rfl, fun w' hS => Or.inl ⟨w', ?_, hS⟩⟩) ?_
                    rotate_left
                    · go_simp
                      all_goals with_reducible rfl
                    simp only [Act.put, List.setIfInBounds_toArray, List.set_cons_zero, List.set_cons_succ]
                    refine det_take (v := ?_) (i := 80) (fuel := 26) (by simp; rfl) (by kernel_rfl) (by kernel_rfl) (by kernel_rfl) (Or.inl ⟨by rfl, fun w' hS => Or.inl ⟨w', ?_, hS⟩⟩) ?_
                    rotate_left
                    · go_simp
                      all_goals with_reducible rfl
                    simp only [Act.put, List.setIfInBounds_toArray, List.set_cons_zero, List.set_cons_succ]
                    refine det_take (v := ?_) (i := 81) (fuel := 25) (by simp; rfl) (by kernel_rfl) (by kernel_rfl) (by kernel_rfl) (Or.inl ⟨by rfl, fun w' hS => Or.inl ⟨w', ?_, hS⟩⟩) ?_
                    rotate_left
                    · go_simp
                      all_goals with_reducible rfl
                    simp only [Act.put, List.setIfInBounds_toArray, List.set_cons_zero, List.set_cons_succ]
                    refine det_take (v := ?_) (i := 82) (fuel := 24) (by simp; rfl) (by kernel_rfl) (by kernel_rfl) (by kernel_rfl) (Or.inl ⟨by rfl, fun w' hS => Or.inl ⟨w', ?_, hS⟩⟩) ?_
                    rotate_left
                    · obtain ⟨-, c0, c1, c2, c3⟩ := HB.dec (t := 25) (g := x1.heap.size) (a := .bool n1) (b := .int .u64 a1) (c := .int .u64 b1) (d := .int .i64 s1) hS (by simp)
                      go_simp
                      all_goals with_reducible rfl
                    simp only [Act.put, List.setIfInBounds_toArray, List.set_cons_zero, List.set_cons_succ]
                    refine det_take (v := .string ⟨pv.toArray⟩) (i := 83) (fuel := 23) (by simp; rfl) (by kernel_rfl) (by kernel_rfl) (by kernel_rfl) (Or.inl ⟨by rfl, fun w' hS => Or.inr ⟨26, #[.agg #[.bool n1, .int .u64 a1, .int .u64 b1, .int .i64 s1]], w', ?_, ?_⟩⟩) ?_
                    · go_simp
                      all_goals with_reducible rfl
                    · exact (printD_v n1 a1 b1 s1 pv _ ua1 ub1 (tabIs_below HT.out (HB.bel hS)) HPV.out).mono fun e w2 ⟨_, hv, he, hb⟩ => ⟨by rw [he, hv], HB.below hS hb⟩
                    simp only [Act.put, List.setIfInBounds_toArray, List.set_cons_zero, List.set_cons_succ]
                    as_aux_lemma =>
                      refine det_take (v := ?_) (i := 84) (fuel := 22) (by simp; rfl) (by kernel_rfl) (by kernel_rfl) (by kernel_rfl) (Or.inl ⟨by rfl, fun w' hS => Or.inl ⟨w', ?_, hS⟩⟩) ?_
                      rotate_left
                      · obtain ⟨-, c0, c1, c2, c3⟩ := HB.dec (t := 25) (g := x1.heap.size) (a := .bool n1) (b := .int .u64 a1) (c := .int .u64 b1) (d := .int .i64 s1) hS (by simp)
                        go_simp
                        all_goals with_reducible rfl
                      simp only [Act.put, List.setIfInBounds_toArray, List.set_cons_zero, List.set_cons_succ]
                      refine det_take (v := .string ⟨pv.toArray⟩) (i := 85) (fuel := 21) (by simp; rfl) (by kernel_rfl) (by kernel_rfl) (by kernel_rfl) (Or.inl ⟨by rfl, fun w' hS => Or.inr ⟨27, #[.agg #[.bool n1, .int .u64 a1, .int .u64 b1, .int .i64 s1]], w', ?_, ?_⟩⟩) ?_
                      · go_simp
                        all_goals with_reducible rfl
                      · exact (rprintD_v n1 a1 b1 s1 pv _ ua1 ub1 HPV.out).mono fun e w2 ⟨_, hv, he, hb⟩ => ⟨by rw [he, hv], HB.below hS hb⟩
                      simp only [Act.put, List.setIfInBounds_toArray, List.set_cons_zero, List.set_cons_succ]
                      refine det_take (v := ?_) (i := 86) (fuel := 20) (by simp; rfl) (by kernel_rfl) (by kernel_rfl) (by kernel_rfl) (Or.inl ⟨by rfl, fun w' hS => Or.inl ⟨w', ?_, hS⟩⟩) ?_
                      rotate_left
                      · go_simp
                        all_goals with_reducible rfl
                      simp only [Act.put, List.setIfInBounds_toArray, List.set_cons_zero, List.set_cons_succ]
                      refine det_take (v := ?_) (i := 87) (fuel := 19) (by simp; rfl) (by kernel_rfl) (by kernel_rfl) (by kernel_rfl) (Or.inl ⟨by rfl, fun w' hS => Or.inl ⟨w', ?_, hS⟩⟩) ?_
                      rotate_left
                      · go_simp
                        all_goals with_reducible rfl
                      simp only [Act.put, List.setIfInBounds_toArray, List.set_cons_zero, List.set_cons_succ]
                      refine det_take (v := ?_) (i := 88) (fuel := 18) (by simp; rfl) (by kernel_rfl) (by kernel_rfl) (by kernel_rfl) (Or.inl ⟨by rfl, fun w' hS => Or.inl ⟨w', ?_, hS⟩⟩) ?_
                      rotate_left
                      · go_simp
                        all_goals with_reducible rfl
                      simp only [Act.put, List.setIfInBounds_toArray, List.set_cons_zero, List.set_cons_succ]
                      refine det_take (v := ?_) (i := 89) (fuel := 17) (by simp; rfl) (by kernel_rfl) (by kernel_rfl) (by kernel_rfl) (Or.inl ⟨by rfl, fun w' hS => Or.inl ⟨w', ?_, hS⟩⟩) ?_
                      rotate_left
                      · go_simp
                        all_goals with_reducible rfl
                      simp only [Act.put, List.setIfInBounds_toArray, List.set_cons_zero, List.set_cons_succ]
                      refine det_take (v := ?_) (i := 90) (fuel := 16) (by simp; rfl) (by kernel_rfl) (by kernel_rfl) (by kernel_rfl) (Or.inl ⟨by rfl, fun w' hS => Or.inl ⟨w', ?_, hS⟩⟩) ?_
                      rotate_left
                      · go_simp
                        all_goals with_reducible rfl
                      simp only [Act.put, List.setIfInBounds_toArray, List.set_cons_zero, List.set_cons_succ]
                      refine det_take (v := .agg #[.bool n9, .int .u64 a9, .int .u64 0, .int .i64 r9]) (i := 91) (fuel := 15) (by simp; rfl) (by kernel_rfl) (by kernel_rfl) (by kernel_rfl) (Or.inl ⟨by rfl, fun w' hS => Or.inr ⟨28, #[.int .i64 pn, .int .i64 ps], w', ?_, ?_⟩⟩) ?_
                      · go_simp
                        all_goals with_reducible rfl
                      · exact (ofD_v pn ps r9 n9 a9 _ HPN.out HR9.out HN9.out HA9.out).mono fun e w2 ⟨_, hv, he, hb⟩ => ⟨by rw [he, hv], HB.below hS hb⟩
                      simp only [Act.put, List.setIfInBounds_toArray, List.set_cons_zero, List.set_cons_succ]
                      refine det_take (v := ?_) (i := 92) (fuel := 14) (by simp; rfl) (by kernel_rfl) (by kernel_rfl) (by kernel_rfl) (Or.inl ⟨by rfl, fun w' hS => Or.inl ⟨w', ?_, hS⟩⟩) ?_
                      rotate_left
                      · go_simp
                        all_goals with_reducible rfl
                      simp only [Act.put, List.setIfInBounds_toArray, List.set_cons_zero, List.set_cons_succ]
                      refine det_take (v := ?_) (i := 93) (fuel := 13) (by simp; rfl) (by kernel_rfl) (by kernel_rfl) (by kernel_rfl) (Or.inl ⟨by rfl, fun w' hS => Or.inl ⟨w', ?_, hS⟩⟩) ?_
                      rotate_left
                      · go_simp
                        all_goals with_reducible rfl
                      simp only [Act.put, List.setIfInBounds_toArray, List.set_cons_zero, List.set_cons_succ]
                      refine det_take (v := .agg #[.bool n9, .int .u64 a9, .int .u64 0, .int .i64 r9]) (i := 94) (fuel := 12) (by simp; rfl) (by kernel_rfl) (by kernel_rfl) (by kernel_rfl) (Or.inl ⟨by rfl, fun w' hS => Or.inr ⟨29, #[.int .i64 pn, .int .i64 ps], w', ?_, ?_⟩⟩) ?_
                      · go_simp
                        all_goals with_reducible rfl
                      · exact (rOf_v pn ps r9 n9 a9 _ HPN.out HR9.out HN9.out HA9.out).mono fun e w2 ⟨_, hv, he, hb⟩ => ⟨by rw [he, hv], HB.below hS hb⟩
                      simp only [Act.put, List.setIfInBounds_toArray, List.set_cons_zero, List.set_cons_succ]
                      refine det_take (v := ?_) (i := 95) (fuel := 11) (by simp; rfl) (by kernel_rfl) (by kernel_rfl) (by kernel_rfl) (Or.inl ⟨by rfl, fun w' hS => Or.inl ⟨w', ?_, hS⟩⟩) ?_
                      rotate_left
                      · go_simp
                        all_goals with_reducible rfl
                      simp only [Act.put, List.setIfInBounds_toArray, List.set_cons_zero, List.set_cons_succ]
                      as_aux_lemma =>
                        refine det_take (v := ?_) (i := 96) (fuel := 10) (by simp; rfl) (by kernel_rfl) (by kernel_rfl) (by kernel_rfl) (Or.inl ⟨by rfl, fun w' hS => Or.inl ⟨w', ?_, hS⟩⟩) ?_
                        rotate_left
                        · go_simp
                          all_goals with_reducible rfl
                        simp only [Act.put, List.setIfInBounds_toArray, List.set_cons_zero, List.set_cons_succ]
                        refine det_take (v := ?_) (i := 97) (fuel := 9) (by simp; rfl) (by kernel_rfl) (by kernel_rfl) (by kernel_rfl) (Or.inl ⟨by rfl, fun w' hS => Or.inl ⟨w', ?_, hS⟩⟩) ?_
                        rotate_left
                        · go_simp
                          all_goals with_reducible rfl
                        simp only [Act.put, List.setIfInBounds_toArray, List.set_cons_zero, List.set_cons_succ]
                        refine det_take (v := ?_) (i := 98) (fuel := 8) (by simp; rfl) (by kernel_rfl) (by kernel_rfl) (by kernel_rfl) (Or.inl ⟨by rfl, fun w' hS => Or.inl ⟨w', ?_, hS⟩⟩) ?_
                        rotate_left
                        · go_simp
                          all_goals with_reducible rfl
                        simp only [Act.put, List.setIfInBounds_toArray, List.set_cons_zero, List.set_cons_succ]
                        refine det_take (v := ?_) (i := 99) (fuel := 7) (by simp; rfl) (by kernel_rfl) (by kernel_rfl) (by kernel_rfl) (Or.inl ⟨by rfl, fun w' hS => Or.inl ⟨w', ?_, hS⟩⟩) ?_
                        rotate_left
                        · go_simp
                          all_goals with_reducible rfl
                        simp only [Act.put, List.setIfInBounds_toArray, List.set_cons_zero, List.set_cons_succ]
                        refine det_take (v := .agg #[.bool n9, .int .u64 a9, .int .u64 0, .int .i64 r10]) (i := 100) (fuel := 6) (by simp; rfl) (by kernel_rfl) (by kernel_rfl) (by kernel_rfl) (Or.inl ⟨by rfl, fun w' hS => Or.inr ⟨28, #[.int .i64 pn, .int .i64 (k - 2)], w', ?_, ?_⟩⟩) ?_
                        · go_simp
                          all_goals with_reducible rfl
                        · exact (ofD_v pn (k - 2) r10 n9 a9 _ HPN.out HR10.out HN9.out HA9.out).mono fun e w2 ⟨_, hv, he, hb⟩ => ⟨by rw [he, hv], HB.below hS hb⟩
                        simp only [Act.put, List.setIfInBounds_toArray, List.set_cons_zero, List.set_cons_succ]
                        refine det_take (v := ?_) (i := 101) (fuel := 5) (by simp; rfl) (by kernel_rfl) (by kernel_rfl) (by kernel_rfl) (Or.inl ⟨by rfl, fun w' hS => Or.inl ⟨w', ?_, hS⟩⟩) ?_
                        rotate_left
                        · go_simp
                          all_goals with_reducible rfl
                        simp only [Act.put, List.setIfInBounds_toArray, List.set_cons_zero, List.set_cons_succ]
                        refine det_take (v := ?_) (i := 102) (fuel := 4) (by simp; rfl) (by kernel_rfl) (by kernel_rfl) (by kernel_rfl) (Or.inl ⟨by rfl, fun w' hS => Or.inl ⟨w', ?_, hS⟩⟩) ?_
                        rotate_left
                        · go_simp
                          all_goals with_reducible rfl
                        simp only [Act.put, List.setIfInBounds_toArray, List.set_cons_zero, List.set_cons_succ]
                        refine det_take (v := .agg #[.bool n9, .int .u64 a9, .int .u64 0, .int .i64 r10]) (i := 103) (fuel := 3) (by simp; rfl) (by kernel_rfl) (by kernel_rfl) (by kernel_rfl) (Or.inl ⟨by rfl, fun w' hS => Or.inr ⟨29, #[.int .i64 pn, .int .i64 (k - 2)], w', ?_, ?_⟩⟩) ?_
                        · go_simp
                          all_goals with_reducible rfl
                        · exact (rOf_v pn (k - 2) r10 n9 a9 _ HPN.out HR10.out HN9.out HA9.out).mono fun e w2 ⟨_, hv, he, hb⟩ => ⟨by rw [he, hv], HB.below hS hb⟩
                        simp only [Act.put, List.setIfInBounds_toArray, List.set_cons_zero, List.set_cons_succ]
                        refine det_take (v := ?_) (i := 104) (fuel := 2) (by simp; rfl) (by kernel_rfl) (by kernel_rfl) (by kernel_rfl) (Or.inl ⟨by rfl, fun w' hS => Or.inl ⟨w', ?_, hS⟩⟩) ?_
                        rotate_left
                        · go_simp
                          all_goals with_reducible rfl
                        simp only [Act.put, List.setIfInBounds_toArray, List.set_cons_zero, List.set_cons_succ]
                        refine det_take (v := ?_) (i := 105) (fuel := 1) (by simp; rfl) (by kernel_rfl) (by kernel_rfl) (by kernel_rfl) (Or.inl ⟨by rfl, fun w' hS => Or.inl ⟨w', ?_, hS⟩⟩) ?_
                        rotate_left
                        · go_simp
                          all_goals with_reducible rfl
                        simp only [Act.put, List.setIfInBounds_toArray, List.set_cons_zero, List.set_cons_succ]
                        refine det_take (v := ?_) (i := 106) (fuel := 0) (by simp; rfl) (by kernel_rfl) (by kernel_rfl) (by kernel_rfl) (Or.inl ⟨by rfl, fun w' hS => Or.inl ⟨w', ?_, hS⟩⟩) ?_
                        rotate_left
                        · go_simp
                          all_goals with_reducible rfl
                        simp only [Act.put, List.setIfInBounds_toArray, List.set_cons_zero, List.set_cons_succ]
                        refine det_done (by kernel_rfl) (fun w' hS => ?_) _
                        have HBS := Lib.hid (HB.bel hS)
                        clear hS V
                        go_wp2
                        go_ret
                        exact ⟨_, rfl, rfl, HBS.out⟩
end Go.Proofs.YtlhceelkefgjhaaGreatDoor

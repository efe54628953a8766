/- pyxlaw2: DecSigns, up to its last region. -/
import Derived.Test.YtfppkhbbcnplfaaGreatDoorTextH
import Derived.Test.YtfppkhbbcnplfaaGreatDoorRefP
import Derived.Test.YtfppkhbbcnplfaaGreatDoorDecF
import Derived.Test.YtfppkhbbcnplfaaGreatDoorHand
import Derived.Test.YtfppkhbbcnplfaaGreatDoorDet
namespace Go.Proofs.YtfppkhbbcnplfaaGreatDoor
open Go.RowKit
theorem sm_big {z : Int} (h : z.natAbs ≤ 1000000000) : Sm z ∧ z.natAbs < 1000000000000000000000000000000 := by unfold Sm; omega
theorem sm_prod {z z' : Int} (h : z.natAbs ≤ 1000000000) (h' : z'.natAbs ≤ 1000000000) : z.natAbs * z'.natAbs < 1000000000000000000000000000000 := by
  have := Nat.mul_le_mul h h'
  omega
theorem decIs_one {n n' : Bool} {a b a' b' z : Int} (h : DecIs n a b z) (h' : DecIs n' a' b' z) : n = n' ∧ a = a' ∧ b = b' := by
  obtain ⟨e, h1, h2, h3⟩ := h
  obtain ⟨e', h1', h2', h3'⟩ := h'
  refine ⟨e.trans e'.symm, ?_⟩
  rw [← h3'] at h3
  unfold U64 at *; unfold v2 at h3
  omega
theorem neg_v (n : Bool) (a b s z : Int) (n' : Bool) (a' b' : Int) (w : World) (h : DecIs n a b z) (h' : DecIs n' a' b' (-z)) (hz : z.natAbs < 1000000000000000000000000000000) (h0 : 0 ≤ s) (h9 : s ≤ 9) :
    Calls Tryz.prog 23 #[.agg #[.bool n, .int .u64 a, .int .u64 b, .int .i64 s]] w (Ret w (· = .agg #[.bool n', .int .u64 a', .int .u64 b', .int .i64 s])) :=
  (neg_d n a b s z w h hz h0 h9).mono fun e w' ⟨v, ⟨m, c, d, hd, ev⟩, he, hb⟩ => by
    obtain ⟨rfl, rfl, rfl⟩ := decIs_one hd h'
    exact ⟨v, ev, he, hb⟩
theorem cmp_v (n : Bool) (a b s z : Int) (n' : Bool) (a' b' s' z' t c : Int) (w : World) (h : DecIs n a b z) (h' : DecIs n' a' b' z') (hz : Sm z) (hz' : Sm z') (h0 : 0 ≤ s) (h0' : 0 ≤ s') (h9 : s ≤ 9) (h9' : s' ≤ 9) (ht : (s < s' ∧ s' = t) ∨ (s' ≤ s ∧ s = t)) (hc : cmpZ (zAt z s t) (zAt z' s' t) = c) :
    Calls Tryz.prog 27 #[.agg #[.bool n, .int .u64 a, .int .u64 b, .int .i64 s], .agg #[.bool n', .int .u64 a', .int .u64 b', .int .i64 s']] w (Ret w (· = .int .i64 c)) := by
  subst hc
  exact cmp_d n a b s z n' a' b' s' z' t w h h' hz hz' h0 h0' h9 h9' ht
theorem sign_v (n : Bool) (a b s z c : Int) (w : World) (h : DecIs n a b z) (hz : z.natAbs < 1000000000000000000000000000000) (h0 : 0 ≤ s) (h9 : s ≤ 9) (hc : z.sign = c) :
    Calls Tryz.prog 25 #[.agg #[.bool n, .int .u64 a, .int .u64 b, .int .i64 s]] w (Ret w (· = .int .i64 c)) := by
  subst hc
  exact sign_d n a b s z w h hz h0 h9
theorem zAt_neg (z s t : Int) : zAt (-z) s t = -zAt z s t := by
  unfold zAt; rw [Int.neg_mul]
theorem cmpZ_neg (x y : Int) : cmpZ (-y) (-x) = cmpZ x y := by
  unfold cmpZ; split <;> split <;> (try split) <;> (try split) <;> omega
theorem sum_small {x y s t r : Int} (hx : Sm x) (hy : Sm y) (h0 : 0 ≤ s) (h0' : 0 ≤ t) (h9 : s ≤ 9) (h9' : t ≤ 9) (hr : (s < t ∧ t = r) ∨ (t ≤ s ∧ s = r)) : (zAt x s r + zAt y t r).natAbs < 1000000000000000000000000000000 ∧ 0 ≤ r ∧ r ≤ 9 := by
  have one : ∀ (z s : Int), Sm z → 0 ≤ s → r ≤ 9 → (zAt z s r).natAbs < 100000000000000000000000000000 := by
    intro z s hz h0 h9
    unfold zAt
    rw [Int.natAbs_mul, Int.natAbs_natCast]
    have p : 10 ^ (r - s).toNat ≤ 10 ^ 9 := Nat.pow_le_pow_right (by decide) (by omega)
    unfold Sm at hz
    have h1 := Nat.mul_le_mul (Nat.le_of_lt_succ (show z.natAbs < 99999999999999999999 + 1 by omega)) p
    omega
  have h1 := one x s hx h0 (by omega)
  have h2 := one y t hy h0' (by omega)
  have h3 := Int.natAbs_add_le (zAt x s r) (zAt y t r)
  exact ⟨by omega, by omega, by omega⟩
set_option maxRecDepth 100000 in
set_option maxHeartbeats 3200000 in
theorem signs_c (n scale m other mx : Int) (w : World) (hm : w.cell? ⟨0, 0, none⟩ = some (.int .i64 mx)) (htab : Lib.TabIs Tryz.prog w "internal/strconv.uint64pow10" .u64 Lib.pow10Tab) : Calls Tryz.prog 6 #[.int .i64 n, .int .i64 scale, .int .i64 m, .int .i64 other] w (Ret w (IsBool true)) := by
  have HT := Lib.hid htab
  clear htab
  go_enter Tryz.func6, Tryz.ntmps6
  have V := HB.start (Below.refl w.heap.size w)
  go_wp2_with fail
  refine (pick_c _ 2000000001 _ (by omega) (by omega)).mono ?_
  rintro e w' ⟨_, ⟨u1, ⟨lo1, hi1⟩, rfl⟩, rfl, rfl⟩
  obtain ⟨x, e1⟩ : ∃ x : Int, u1 - 1000000000 = x := ⟨_, rfl⟩
  have hx : x.natAbs ≤ 1000000000 := by omega
  go_wp2_with fail
  refine (pick_c _ 5 _ (by omega) (by omega)).mono ?_
  rintro e w' ⟨_, ⟨s, ⟨ls, hs⟩, rfl⟩, rfl, rfl⟩
  go_wp2_with fail
  refine (refOf_c x s _ (by omega) (by omega) (by omega) (by omega)).mono ?_
  clear lo1 hi1 e1
  rintro e w1 ⟨_, ⟨n1, a1, b1, D1, rfl⟩, rfl, hb⟩
  replace V := V.below hb
  clear hb
  replace V := V.push #[.bool n1, .int .u64 a1, .int .u64 b1, .int .i64 s] 25
  go_wp2_with fail
  refine (pick_c _ 2000000001 _ (by omega) (by omega)).mono ?_
  rintro e w' ⟨_, ⟨u2, ⟨lo2, hi2⟩, rfl⟩, rfl, rfl⟩
  obtain ⟨y, e2⟩ : ∃ y : Int, u2 - 1000000000 = y := ⟨_, rfl⟩
  have hy : y.natAbs ≤ 1000000000 := by omega
  go_wp2_with fail
  refine (pick_c _ 5 _ (by omega) (by omega)).mono ?_
  rintro e w' ⟨_, ⟨t, ⟨lt, ht⟩, rfl⟩, rfl, rfl⟩
  go_wp2_with fail
  refine (refOf_c y t _ (by omega) (by omega) (by omega) (by omega)).mono ?_
  clear lo2 hi2 e2
  rintro e w2 ⟨_, ⟨n2, a2, b2, D2, rfl⟩, rfl, hb⟩
  replace V := V.below hb
  clear hb
  obtain ⟨g1, p10, p11, p12, p13⟩ := HB.dec (t := 25) (g := w1.heap.size) (a := .bool n1) (b := .int .u64 a1) (c := .int .u64 b1) (d := .int .i64 s) V (by simp)
  replace V := V.push #[.bool n2, .int .u64 a2, .int .u64 b2, .int .i64 t] 25
  obtain ⟨r, hr⟩ : ∃ r : Int, (s < t ∧ t = r) ∨ (t ≤ s ∧ s = r) := by
    rcases Int.lt_or_le s t with h | h
    · exact ⟨t, Or.inl ⟨h, rfl⟩⟩
    · exact ⟨s, Or.inr ⟨h, rfl⟩⟩
  have h9 : s ≤ 9 ∧ t ≤ 9 ∧ s + t ≤ 9 := by omega
  obtain ⟨s9, t9, st9⟩ := h9
  have HX := Lib.hid (sm_big hx)
  have HY := Lib.hid (sm_big hy)
  have hx' : (-x).natAbs ≤ 1000000000 := by omega
  have hy' : (-y).natAbs ≤ 1000000000 := by omega
  have HX' := Lib.hid (sm_big hx')
  have HY' := Lib.hid (sm_big hy')
  have Pxy := Lib.hid (sm_prod hx hy)
  have Pxy' := Lib.hid (sm_prod hx' hy')
  have Px'y := Lib.hid (sm_prod hx' hy)
  clear hx hy hx' hy' hs ht
  go_wp2_with fail
  refine (neg_d n1 a1 b1 s x _ D1 HX.out.2 ls s9).mono ?_
  clear g1 p10 p11 p12 p13
  rintro e w3 ⟨_, ⟨n3, a3, b3, D3, rfl⟩, rfl, hb⟩
  replace V := V.below hb
  clear hb
  obtain ⟨g1, p10, p11, p12, p13⟩ := HB.dec (t := 25) (g := w1.heap.size) (a := .bool n1) (b := .int .u64 a1) (c := .int .u64 b1) (d := .int .i64 s) V (by simp)
  obtain ⟨g2, p20, p21, p22, p23⟩ := HB.dec (t := 25) (g := w2.heap.size) (a := .bool n2) (b := .int .u64 a2) (c := .int .u64 b2) (d := .int .i64 t) V (by simp)
  replace V := V.push #[.bool n3, .int .u64 a3, .int .u64 b3, .int .i64 s] 25
  go_wp2_with fail
  refine (neg_d n2 a2 b2 t y _ D2 HY.out.2 lt t9).mono ?_
  clear g1 p10 p11 p12 p13 g2 p20 p21 p22 p23
  rintro e w4 ⟨_, ⟨n4, a4, b4, D4, rfl⟩, rfl, hb⟩
  replace V := V.below hb
  clear hb
  obtain ⟨g1, p10, p11, p12, p13⟩ := HB.dec (t := 25) (g := w1.heap.size) (a := .bool n1) (b := .int .u64 a1) (c := .int .u64 b1) (d := .int .i64 s) V (by simp)
  obtain ⟨g2, p20, p21, p22, p23⟩ := HB.dec (t := 25) (g := w2.heap.size) (a := .bool n2) (b := .int .u64 a2) (c := .int .u64 b2) (d := .int .i64 t) V (by simp)
  obtain ⟨g3, p30, p31, p32, p33⟩ := HB.dec (t := 25) (g := w3.heap.size) (a := .bool n3) (b := .int .u64 a3) (c := .int .u64 b3) (d := .int .i64 s) V (by simp)
  replace V := V.push #[.bool n4, .int .u64 a4, .int .u64 b4, .int .i64 t] 25
  go_wp2_with fail
  refine (add_d n1 a1 b1 s x n2 a2 b2 t y r _ D2 D1 HX.out.1 HY.out.1 ls lt s9 t9 hr).mono ?_
  clear g1 p10 p11 p12 p13 g2 p20 p21 p22 p23 g3 p30 p31 p32 p33
  rintro e w5 ⟨_, ⟨n5, a5, b5, D5, rfl⟩, rfl, hb⟩
  replace V := V.below hb
  clear hb
  obtain ⟨g1, p10, p11, p12, p13⟩ := HB.dec (t := 25) (g := w1.heap.size) (a := .bool n1) (b := .int .u64 a1) (c := .int .u64 b1) (d := .int .i64 s) V (by simp)
  obtain ⟨g2, p20, p21, p22, p23⟩ := HB.dec (t := 25) (g := w2.heap.size) (a := .bool n2) (b := .int .u64 a2) (c := .int .u64 b2) (d := .int .i64 t) V (by simp)
  obtain ⟨g3, p30, p31, p32, p33⟩ := HB.dec (t := 25) (g := w3.heap.size) (a := .bool n3) (b := .int .u64 a3) (c := .int .u64 b3) (d := .int .i64 s) V (by simp)
  obtain ⟨g4, p40, p41, p42, p43⟩ := HB.dec (t := 25) (g := w4.heap.size) (a := .bool n4) (b := .int .u64 a4) (c := .int .u64 b4) (d := .int .i64 t) V (by simp)
  replace V := V.push #[.bool n5, .int .u64 a5, .int .u64 b5, .int .i64 r] 25
  go_wp2_with fail
  refine (add_d n3 a3 b3 s (-x) n4 a4 b4 t (-y) r _ D4 D3 HX'.out.1 HY'.out.1 ls lt s9 t9 hr).mono ?_
  clear g1 p10 p11 p12 p13 g2 p20 p21 p22 p23 g3 p30 p31 p32 p33 g4 p40 p41 p42 p43
  rintro e w6 ⟨_, ⟨n6, a6, b6, D6, rfl⟩, rfl, hb⟩
  replace V := V.below hb
  clear hb
  obtain ⟨g1, p10, p11, p12, p13⟩ := HB.dec (t := 25) (g := w1.heap.size) (a := .bool n1) (b := .int .u64 a1) (c := .int .u64 b1) (d := .int .i64 s) V (by simp)
  obtain ⟨g2, p20, p21, p22, p23⟩ := HB.dec (t := 25) (g := w2.heap.size) (a := .bool n2) (b := .int .u64 a2) (c := .int .u64 b2) (d := .int .i64 t) V (by simp)
  obtain ⟨g3, p30, p31, p32, p33⟩ := HB.dec (t := 25) (g := w3.heap.size) (a := .bool n3) (b := .int .u64 a3) (c := .int .u64 b3) (d := .int .i64 s) V (by simp)
  obtain ⟨g4, p40, p41, p42, p43⟩ := HB.dec (t := 25) (g := w4.heap.size) (a := .bool n4) (b := .int .u64 a4) (c := .int .u64 b4) (d := .int .i64 t) V (by simp)
  obtain ⟨g5, p50, p51, p52, p53⟩ := HB.dec (t := 25) (g := w5.heap.size) (a := .bool n5) (b := .int .u64 a5) (c := .int .u64 b5) (d := .int .i64 r) V (by simp)
  replace V := V.push #[.bool n6, .int .u64 a6, .int .u64 b6, .int .i64 r] 25
  go_wp2_with fail
  refine (mul_d n1 a1 b1 s x n2 a2 b2 t y _ D1 D2 HX.out.2 HY.out.2 ls lt st9 Pxy.out).mono ?_
  clear g1 p10 p11 p12 p13 g2 p20 p21 p22 p23 g3 p30 p31 p32 p33 g4 p40 p41 p42 p43 g5 p50 p51 p52 p53
  rintro e w7 ⟨_, ⟨n7, a7, b7, D7, rfl⟩, rfl, hb⟩
  replace V := V.below hb
  clear hb
  obtain ⟨g1, p10, p11, p12, p13⟩ := HB.dec (t := 25) (g := w1.heap.size) (a := .bool n1) (b := .int .u64 a1) (c := .int .u64 b1) (d := .int .i64 s) V (by simp)
  obtain ⟨g2, p20, p21, p22, p23⟩ := HB.dec (t := 25) (g := w2.heap.size) (a := .bool n2) (b := .int .u64 a2) (c := .int .u64 b2) (d := .int .i64 t) V (by simp)
  obtain ⟨g3, p30, p31, p32, p33⟩ := HB.dec (t := 25) (g := w3.heap.size) (a := .bool n3) (b := .int .u64 a3) (c := .int .u64 b3) (d := .int .i64 s) V (by simp)
  obtain ⟨g4, p40, p41, p42, p43⟩ := HB.dec (t := 25) (g := w4.heap.size) (a := .bool n4) (b := .int .u64 a4) (c := .int .u64 b4) (d := .int .i64 t) V (by simp)
  obtain ⟨g5, p50, p51, p52, p53⟩ := HB.dec (t := 25) (g := w5.heap.size) (a := .bool n5) (b := .int .u64 a5) (c := .int .u64 b5) (d := .int .i64 r) V (by simp)
  obtain ⟨g6, p60, p61, p62, p63⟩ := HB.dec (t := 25) (g := w6.heap.size) (a := .bool n6) (b := .int .u64 a6) (c := .int .u64 b6) (d := .int .i64 r) V (by simp)
  replace V := V.push #[.bool n7, .int .u64 a7, .int .u64 b7, .int .i64 (s + t)] 25
  go_wp2_with fail
  refine (mul_d n3 a3 b3 s (-x) n4 a4 b4 t (-y) _ D3 D4 HX'.out.2 HY'.out.2 ls lt st9 Pxy'.out).mono ?_
  clear g1 p10 p11 p12 p13 g2 p20 p21 p22 p23 g3 p30 p31 p32 p33 g4 p40 p41 p42 p43 g5 p50 p51 p52 p53 g6 p60 p61 p62 p63
  rintro e w8 ⟨_, ⟨n8, a8, b8, D8, rfl⟩, rfl, hb⟩
  replace V := V.below hb
  clear hb
  obtain ⟨g1, p10, p11, p12, p13⟩ := HB.dec (t := 25) (g := w1.heap.size) (a := .bool n1) (b := .int .u64 a1) (c := .int .u64 b1) (d := .int .i64 s) V (by simp)
  obtain ⟨g2, p20, p21, p22, p23⟩ := HB.dec (t := 25) (g := w2.heap.size) (a := .bool n2) (b := .int .u64 a2) (c := .int .u64 b2) (d := .int .i64 t) V (by simp)
  obtain ⟨g3, p30, p31, p32, p33⟩ := HB.dec (t := 25) (g := w3.heap.size) (a := .bool n3) (b := .int .u64 a3) (c := .int .u64 b3) (d := .int .i64 s) V (by simp)
  obtain ⟨g4, p40, p41, p42, p43⟩ := HB.dec (t := 25) (g := w4.heap.size) (a := .bool n4) (b := .int .u64 a4) (c := .int .u64 b4) (d := .int .i64 t) V (by simp)
  obtain ⟨g5, p50, p51, p52, p53⟩ := HB.dec (t := 25) (g := w5.heap.size) (a := .bool n5) (b := .int .u64 a5) (c := .int .u64 b5) (d := .int .i64 r) V (by simp)
  obtain ⟨g6, p60, p61, p62, p63⟩ := HB.dec (t := 25) (g := w6.heap.size) (a := .bool n6) (b := .int .u64 a6) (c := .int .u64 b6) (d := .int .i64 r) V (by simp)
  obtain ⟨g7, p70, p71, p72, p73⟩ := HB.dec (t := 25) (g := w7.heap.size) (a := .bool n7) (b := .int .u64 a7) (c := .int .u64 b7) (d := .int .i64 (s + t)) V (by simp)
  replace V := V.push #[.bool n8, .int .u64 a8, .int .u64 b8, .int .i64 (s + t)] 25
  go_wp2_with fail
  refine (mul_d n3 a3 b3 s (-x) n2 a2 b2 t y _ D3 D2 HX'.out.2 HY.out.2 ls lt st9 Px'y.out).mono ?_
  clear g1 p10 p11 p12 p13 g2 p20 p21 p22 p23 g3 p30 p31 p32 p33 g4 p40 p41 p42 p43 g5 p50 p51 p52 p53 g6 p60 p61 p62 p63 g7 p70 p71 p72 p73
  rintro e w9 ⟨_, ⟨n9, a9, b9, D9, rfl⟩, rfl, hb⟩
  replace V := V.below hb
  clear hb
  obtain ⟨g1, p10, p11, p12, p13⟩ := HB.dec (t := 25) (g := w1.heap.size) (a := .bool n1) (b := .int .u64 a1) (c := .int .u64 b1) (d := .int .i64 s) V (by simp)
  obtain ⟨g2, p20, p21, p22, p23⟩ := HB.dec (t := 25) (g := w2.heap.size) (a := .bool n2) (b := .int .u64 a2) (c := .int .u64 b2) (d := .int .i64 t) V (by simp)
  obtain ⟨g3, p30, p31, p32, p33⟩ := HB.dec (t := 25) (g := w3.heap.size) (a := .bool n3) (b := .int .u64 a3) (c := .int .u64 b3) (d := .int .i64 s) V (by simp)
  obtain ⟨g4, p40, p41, p42, p43⟩ := HB.dec (t := 25) (g := w4.heap.size) (a := .bool n4) (b := .int .u64 a4) (c := .int .u64 b4) (d := .int .i64 t) V (by simp)
  obtain ⟨g5, p50, p51, p52, p53⟩ := HB.dec (t := 25) (g := w5.heap.size) (a := .bool n5) (b := .int .u64 a5) (c := .int .u64 b5) (d := .int .i64 r) V (by simp)
  obtain ⟨g6, p60, p61, p62, p63⟩ := HB.dec (t := 25) (g := w6.heap.size) (a := .bool n6) (b := .int .u64 a6) (c := .int .u64 b6) (d := .int .i64 r) V (by simp)
  obtain ⟨g7, p70, p71, p72, p73⟩ := HB.dec (t := 25) (g := w7.heap.size) (a := .bool n7) (b := .int .u64 a7) (c := .int .u64 b7) (d := .int .i64 (s + t)) V (by simp)
  obtain ⟨g8, p80, p81, p82, p83⟩ := HB.dec (t := 25) (g := w8.heap.size) (a := .bool n8) (b := .int .u64 a8) (c := .int .u64 b8) (d := .int .i64 (s + t)) V (by simp)
  replace V := V.push #[.bool n9, .int .u64 a9, .int .u64 b9, .int .i64 (s + t)] 25
  obtain ⟨rfl, rfl, rfl⟩ : n7 = n8 ∧ a7 = a8 ∧ b7 = b8 := decIs_one D7 (by rw [show x * y = -x * -y from (Int.neg_mul_neg x y).symm]; exact D8)
  have D6' : DecIs n6 a6 b6 (-(zAt x s r + zAt y t r)) := by rw [zAt_neg, zAt_neg] at D6; rw [Int.neg_add]; exact D6
  have D9' : DecIs n9 a9 b9 (-(x * y)) := by rw [Int.neg_mul] at D9; exact D9
  have D1' : DecIs n1 a1 b1 (-(-x)) := by rw [Int.neg_neg]; exact D1
  obtain ⟨c, hc⟩ : ∃ c, cmpZ (zAt x s r) (zAt y t r) = c := ⟨_, rfl⟩
  have hc2 : cmpZ (zAt (-y) t r) (zAt (-x) s r) = c := by rw [zAt_neg, zAt_neg, cmpZ_neg, hc]
  have hr2 : (t < s ∧ s = r) ∨ (s ≤ t ∧ t = r) := by omega
  obtain ⟨σ, hσ⟩ : ∃ σ, x.sign = σ := ⟨_, rfl⟩
  have hσ2 : (-x).sign = -σ := by rw [Int.sign_neg, hσ]
  have hσ3 : (-σ == IntKind.i64.wrap (-σ)) = true := by
    rcases Int.sign_trichotomy x with h | h | h <;> (rw [← hσ, h]; decide)
  have HS5 := Lib.hid (sum_small HX.out.1 HY.out.1 ls lt s9 t9 hr)
  have q1 := eqW2_yes (a := a1) (b := b1) (c := a1) (d := b1) ⟨rfl, rfl⟩
  have q6 := eqW2_yes (a := a6) (b := b6) (c := a6) (d := b6) ⟨rfl, rfl⟩
  have q7 := eqW2_yes (a := a7) (b := b7) (c := a7) (d := b7) ⟨rfl, rfl⟩
  have q9 := eqW2_yes (a := a9) (b := b9) (c := a9) (d := b9) ⟨rfl, rfl⟩
  go_upto_region 10 with fail
  refine wp_region_det (S := fun w' => HB w [(w9.heap.size, 25, #[.bool n9, .int .u64 a9, .int .u64 b9, .int .i64 (s + t)]), (w8.heap.size, 25, #[.bool n7, .int .u64 a7, .int .u64 b7, .int .i64 (s + t)]), (w7.heap.size, 25, #[.bool n7, .int .u64 a7, .int .u64 b7, .int .i64 (s + t)]), (w6.heap.size, 25, #[.bool n6, .int .u64 a6, .int .u64 b6, .int .i64 r]), (w5.heap.size, 25, #[.bool n5, .int .u64 a5, .int .u64 b5, .int .i64 r]), (w4.heap.size, 25, #[.bool n4, .int .u64 a4, .int .u64 b4, .int .i64 t]), (w3.heap.size, 25, #[.bool n3, .int .u64 a3, .int .u64 b3, .int .i64 s]), (w2.heap.size, 25, #[.bool n2, .int .u64 a2, .int .u64 b2, .int .i64 t]), (w1.heap.size, 25, #[.bool n1, .int .u64 a1, .int .u64 b1, .int .i64 s])] w') (by kernel_rfl) (HB.drew V) ?_
  refine det_take (v := ?_) (i := 0) (fuel := 61) (by simp; rfl) (by kernel_rfl) (by kernel_rfl) (by kernel_rfl) (Or.inl ⟨by rfl, fun w' hS => Or.inr ⟨20, #[], w', ?_, ?_⟩⟩) ?_
  rotate_left
  · go_simp
    all_goals with_reducible rfl
  · exact (known_c mx _ (cell_keep (HB.bel hS) hm) (tabIs_below HT.out (HB.bel hS))).mono fun e w2 ⟨_, hv, he, hb⟩ => ⟨by rw [he, hv], HB.below hS hb⟩
  simp only [Act.put, List.setIfInBounds_toArray, List.set_cons_zero, List.set_cons_succ]
  refine det_take (v := ?_) (i := 1) (fuel := 60) (by simp; rfl) (by kernel_rfl) (by kernel_rfl) (by kernel_rfl) (Or.inl ⟨by rfl, fun w' hS => Or.inl ⟨w', ?_, hS⟩⟩) ?_
  rotate_left
  · go_simp
    all_goals with_reducible rfl
  simp only [Act.put, List.setIfInBounds_toArray, List.set_cons_zero, List.set_cons_succ]
  refine det_take (v := ?_) (i := 2) (fuel := 59) (by simp; rfl) (by kernel_rfl) (by kernel_rfl) (by kernel_rfl) (Or.inl ⟨by rfl, fun w' hS => Or.inl ⟨w', ?_, hS⟩⟩) ?_
  rotate_left
  · go_simp
    all_goals with_reducible rfl
  simp only [Act.put, List.setIfInBounds_toArray, List.set_cons_zero, List.set_cons_succ]
  refine det_take (v := ?_) (i := 3) (fuel := 58) (by simp; rfl) (by kernel_rfl) (by kernel_rfl) (by kernel_rfl) (Or.inl ⟨by rfl, fun w' hS => Or.inl ⟨w', ?_, hS⟩⟩) ?_
  rotate_left
  · go_simp
    all_goals with_reducible rfl
  simp only [Act.put, List.setIfInBounds_toArray, List.set_cons_zero, List.set_cons_succ]
  refine det_take (v := ?_) (i := 4) (fuel := 57) (by simp; rfl) (by kernel_rfl) (by kernel_rfl) (by kernel_rfl) (Or.inl ⟨by rfl, fun w' hS => Or.inl ⟨w', ?_, hS⟩⟩) ?_
  rotate_left
  · go_simp
    all_goals with_reducible rfl
  simp only [Act.put, List.setIfInBounds_toArray, List.set_cons_zero, List.set_cons_succ]
  refine det_take (v := ?_) (i := 5) (fuel := 56) (by simp; rfl) (by kernel_rfl) (by kernel_rfl) (by kernel_rfl) (Or.inl ⟨by rfl, fun w' hS => Or.inl ⟨w', ?_, hS⟩⟩) ?_
  rotate_left
  · go_simp
    all_goals with_reducible rfl
  simp only [Act.put, List.setIfInBounds_toArray, List.set_cons_zero, List.set_cons_succ]
  refine det_take (v := ?_) (i := 6) (fuel := 55) (by simp; rfl) (by kernel_rfl) (by kernel_rfl) (by kernel_rfl) (Or.inl ⟨by rfl, fun w' hS => Or.inl ⟨w', ?_, hS⟩⟩) ?_
  rotate_left
  · go_simp
    all_goals with_reducible rfl
  simp only [Act.put, List.setIfInBounds_toArray, List.set_cons_zero, List.set_cons_succ]
  refine det_take (v := ?_) (i := 7) (fuel := 54) (by simp; rfl) (by kernel_rfl) (by kernel_rfl) (by kernel_rfl) (Or.inl ⟨by rfl, fun w' hS => Or.inl ⟨w', ?_, hS⟩⟩) ?_
  rotate_left
  · go_simp
    all_goals with_reducible rfl
  simp only [Act.put, List.setIfInBounds_toArray, List.set_cons_zero, List.set_cons_succ]
  refine det_take (v := ?_) (i := 8) (fuel := 53) (by simp; rfl) (by kernel_rfl) (by kernel_rfl) (by kernel_rfl) (Or.inl ⟨by rfl, fun w' hS => Or.inl ⟨w', ?_, hS⟩⟩) ?_
  rotate_left
  · go_simp
    all_goals with_reducible rfl
  simp only [Act.put, List.setIfInBounds_toArray, List.set_cons_zero, List.set_cons_succ]
  refine det_take (v := ?_) (i := 9) (fuel := 52) (by simp; rfl) (by kernel_rfl) (by kernel_rfl) (by kernel_rfl) (Or.inl ⟨by rfl, fun w' hS => Or.inl ⟨w', ?_, hS⟩⟩) ?_
  rotate_left
  · go_simp
    all_goals with_reducible rfl
  simp only [Act.put, List.setIfInBounds_toArray, List.set_cons_zero, List.set_cons_succ]
  refine det_take (v := ?_) (i := 10) (fuel := 51) (by simp; rfl) (by kernel_rfl) (by kernel_rfl) (by kernel_rfl) (Or.inl ⟨by rfl, fun w' hS => Or.inl ⟨w', ?_, hS⟩⟩) ?_
  rotate_left
  · go_simp
    all_goals with_reducible rfl
  simp only [Act.put, List.setIfInBounds_toArray, List.set_cons_zero, List.set_cons_succ]
  refine det_take (v := ?_) (i := 11) (fuel := 50) (by simp; rfl) (by kernel_rfl) (by kernel_rfl) (by kernel_rfl) (Or.inl ⟨by rfl, fun w' hS => Or.inl ⟨w', ?_, hS⟩⟩) ?_
  rotate_left
  · go_simp
    all_goals with_reducible rfl
  simp only [Act.put, List.setIfInBounds_toArray, List.set_cons_zero, List.set_cons_succ]
  refine det_take (v := ?_) (i := 12) (fuel := 49) (by simp; rfl) (by kernel_rfl) (by kernel_rfl) (by kernel_rfl) (Or.inl ⟨by rfl, fun w' hS => Or.inl ⟨w', ?_, hS⟩⟩) ?_
  rotate_left
  · go_simp
    all_goals with_reducible rfl
  simp only [Act.put, List.setIfInBounds_toArray, List.set_cons_zero, List.set_cons_succ]
  refine det_take (v := ?_) (i := 13) (fuel := 48) (by simp; rfl) (by kernel_rfl) (by kernel_rfl) (by kernel_rfl) (Or.inl ⟨by rfl, fun w' hS => Or.inl ⟨w', ?_, hS⟩⟩) ?_
  rotate_left
  · go_simp
    all_goals with_reducible rfl
  simp only [Act.put, List.setIfInBounds_toArray, List.set_cons_zero, List.set_cons_succ]
  refine det_take (v := ?_) (i := 14) (fuel := 47) (by simp; rfl) (by kernel_rfl) (by kernel_rfl) (by kernel_rfl) (Or.inl ⟨by rfl, fun w' hS => Or.inl ⟨w', ?_, hS⟩⟩) ?_
  rotate_left
  · go_simp
    all_goals with_reducible rfl
  simp only [Act.put, List.setIfInBounds_toArray, List.set_cons_zero, List.set_cons_succ]
  refine det_take (v := ?_) (i := 15) (fuel := 46) (by simp; rfl) (by kernel_rfl) (by kernel_rfl) (by kernel_rfl) (Or.inl ⟨by rfl, fun w' hS => Or.inl ⟨w', ?_, hS⟩⟩) ?_
  rotate_left
  · go_simp
    all_goals with_reducible rfl
  simp only [Act.put, List.setIfInBounds_toArray, List.set_cons_zero, List.set_cons_succ]
  refine det_take (v := ?_) (i := 16) (fuel := 45) (by simp; rfl) (by kernel_rfl) (by kernel_rfl) (by kernel_rfl) (Or.inl ⟨by rfl, fun w' hS => Or.inl ⟨w', ?_, hS⟩⟩) ?_
  rotate_left
  · go_simp
    all_goals with_reducible rfl
  simp only [Act.put, List.setIfInBounds_toArray, List.set_cons_zero, List.set_cons_succ]
  refine det_take (v := ?_) (i := 17) (fuel := 44) (by simp; rfl) (by kernel_rfl) (by kernel_rfl) (by kernel_rfl) (Or.inl ⟨by rfl, fun w' hS => Or.inl ⟨w', ?_, hS⟩⟩) ?_
  rotate_left
  · go_simp
    all_goals with_reducible rfl
  simp only [Act.put, List.setIfInBounds_toArray, List.set_cons_zero, List.set_cons_succ]
  refine det_take (v := ?_) (i := 18) (fuel := 43) (by simp; rfl) (by kernel_rfl) (by kernel_rfl) (by kernel_rfl) (Or.inl ⟨by rfl, fun w' hS => Or.inl ⟨w', ?_, hS⟩⟩) ?_
  rotate_left
  · go_simp
    all_goals with_reducible rfl
  simp only [Act.put, List.setIfInBounds_toArray, List.set_cons_zero, List.set_cons_succ]
  refine det_take (v := ?_) (i := 19) (fuel := 42) (by simp; rfl) (by kernel_rfl) (by kernel_rfl) (by kernel_rfl) (Or.inl ⟨by rfl, fun w' hS => Or.inl ⟨w', ?_, hS⟩⟩) ?_
  rotate_left
  · go_simp
    all_goals with_reducible rfl
  simp only [Act.put, List.setIfInBounds_toArray, List.set_cons_zero, List.set_cons_succ]
  refine det_take (v := ?_) (i := 20) (fuel := 41) (by simp; rfl) (by kernel_rfl) (by kernel_rfl) (by kernel_rfl) (Or.inl ⟨by rfl, fun w' hS => Or.inl ⟨w', ?_, hS⟩⟩) ?_
  rotate_left
  · go_simp
    all_goals with_reducible rfl
  simp only [Act.put, List.setIfInBounds_toArray, List.set_cons_zero, List.set_cons_succ]
  refine det_take (v := ?_) (i := 21) (fuel := 40) (by simp; rfl) (by kernel_rfl) (by kernel_rfl) (by kernel_rfl) (Or.inl ⟨by rfl, fun w' hS => Or.inl ⟨w', ?_, hS⟩⟩) ?_
  rotate_left
  · go_simp
    all_goals with_reducible rfl
  simp only [Act.put, List.setIfInBounds_toArray, List.set_cons_zero, List.set_cons_succ]
  refine det_take (v := ?_) (i := 22) (fuel := 39) (by simp; rfl) (by kernel_rfl) (by kernel_rfl) (by kernel_rfl) (Or.inl ⟨by rfl, fun w' hS => Or.inl ⟨w', ?_, hS⟩⟩) ?_
  rotate_left
  · obtain ⟨-, c0, c1, c2, c3⟩ := HB.dec (t := 25) (g := w3.heap.size) (a := .bool n3) (b := .int .u64 a3) (c := .int .u64 b3) (d := .int .i64 s) hS (by simp)
    go_simp
    all_goals with_reducible rfl
  simp only [Act.put, List.setIfInBounds_toArray, List.set_cons_zero, List.set_cons_succ]
  refine det_take (v := ?_) (i := 23) (fuel := 38) (by simp; rfl) (by kernel_rfl) (by kernel_rfl) (by kernel_rfl) (Or.inl ⟨by rfl, fun w' hS => Or.inr ⟨23, #[.agg #[.bool n3, .int .u64 a3, .int .u64 b3, .int .i64 s]], w', ?_, ?_⟩⟩) ?_
  rotate_left
  · go_simp
    all_goals with_reducible rfl
  · exact (neg_v n3 a3 b3 s (-x) n1 a1 b1 _ D3 D1' HX'.out.2 ls s9).mono fun e w2 ⟨_, hv, he, hb⟩ => ⟨by rw [he, hv], HB.below hS hb⟩
  simp only [Act.put, List.setIfInBounds_toArray, List.set_cons_zero, List.set_cons_succ]
  refine det_take (v := ?_) (i := 24) (fuel := 37) (by simp; rfl) (by kernel_rfl) (by kernel_rfl) (by kernel_rfl) (Or.inl ⟨by rfl, fun w' hS => Or.inl ⟨w', ?_, hS⟩⟩) ?_
  rotate_left
  · obtain ⟨-, c0, c1, c2, c3⟩ := HB.dec (t := 25) (g := w1.heap.size) (a := .bool n1) (b := .int .u64 a1) (c := .int .u64 b1) (d := .int .i64 s) hS (by simp)
    go_simp
    all_goals with_reducible rfl
  simp only [Act.put, List.setIfInBounds_toArray, List.set_cons_zero, List.set_cons_succ]
  refine det_take (v := ?_) (i := 25) (fuel := 36) (by simp; rfl) (by kernel_rfl) (by kernel_rfl) (by kernel_rfl) (Or.inl ⟨by rfl, fun w' hS => Or.inl ⟨w', ?_, hS⟩⟩) ?_
  rotate_left
  · go_simp
    all_goals with_reducible rfl
  simp only [Act.put, List.setIfInBounds_toArray, List.set_cons_zero, List.set_cons_succ]
  refine det_take (v := ?_) (i := 26) (fuel := 35) (by simp; rfl) (by kernel_rfl) (by kernel_rfl) (by kernel_rfl) (Or.inl ⟨by rfl, fun w' hS => Or.inl ⟨w', ?_, hS⟩⟩) ?_
  rotate_left
  · go_simp
    all_goals with_reducible rfl
  simp only [Act.put, List.setIfInBounds_toArray, List.set_cons_zero, List.set_cons_succ]
  refine det_take (v := ?_) (i := 27) (fuel := 34) (by simp; rfl) (by kernel_rfl) (by kernel_rfl) (by kernel_rfl) (Or.inl ⟨by rfl, fun w' hS => Or.inl ⟨w', ?_, hS⟩⟩) ?_
  rotate_left
  · go_simp
    all_goals with_reducible rfl
  simp only [Act.put, List.setIfInBounds_toArray, List.set_cons_zero, List.set_cons_succ]
  refine det_take (v := ?_) (i := 28) (fuel := 33) (by simp; rfl) (by kernel_rfl) (by kernel_rfl) (by kernel_rfl) (Or.inl ⟨by rfl, fun w' hS => Or.inl ⟨w', ?_, hS⟩⟩) ?_
  rotate_left
  · obtain ⟨-, c0, c1, c2, c3⟩ := HB.dec (t := 25) (g := w6.heap.size) (a := .bool n6) (b := .int .u64 a6) (c := .int .u64 b6) (d := .int .i64 r) hS (by simp)
    go_simp
    all_goals with_reducible rfl
  simp only [Act.put, List.setIfInBounds_toArray, List.set_cons_zero, List.set_cons_succ]
  refine det_take (v := ?_) (i := 29) (fuel := 32) (by simp; rfl) (by kernel_rfl) (by kernel_rfl) (by kernel_rfl) (Or.inl ⟨by rfl, fun w' hS => Or.inl ⟨w', ?_, hS⟩⟩) ?_
  rotate_left
  · obtain ⟨-, c0, c1, c2, c3⟩ := HB.dec (t := 25) (g := w5.heap.size) (a := .bool n5) (b := .int .u64 a5) (c := .int .u64 b5) (d := .int .i64 r) hS (by simp)
    go_simp
    all_goals with_reducible rfl
  simp only [Act.put, List.setIfInBounds_toArray, List.set_cons_zero, List.set_cons_succ]
  refine det_take (v := ?_) (i := 30) (fuel := 31) (by simp; rfl) (by kernel_rfl) (by kernel_rfl) (by kernel_rfl) (Or.inl ⟨by rfl, fun w' hS => Or.inr ⟨23, #[.agg #[.bool n5, .int .u64 a5, .int .u64 b5, .int .i64 r]], w', ?_, ?_⟩⟩) ?_
  rotate_left
  · go_simp
    all_goals with_reducible rfl
  · exact (neg_v n5 a5 b5 r (zAt x s r + zAt y t r) n6 a6 b6 _ D5 D6' HS5.out.1 HS5.out.2.1 HS5.out.2.2).mono fun e w2 ⟨_, hv, he, hb⟩ => ⟨by rw [he, hv], HB.below hS hb⟩
  simp only [Act.put, List.setIfInBounds_toArray, List.set_cons_zero, List.set_cons_succ]
  refine det_take (v := ?_) (i := 31) (fuel := 30) (by simp; rfl) (by kernel_rfl) (by kernel_rfl) (by kernel_rfl) (Or.inl ⟨by rfl, fun w' hS => Or.inl ⟨w', ?_, hS⟩⟩) ?_
  rotate_left
  · go_simp
    all_goals with_reducible rfl
  simp only [Act.put, List.setIfInBounds_toArray, List.set_cons_zero, List.set_cons_succ]
  refine det_take (v := ?_) (i := 32) (fuel := 29) (by simp; rfl) (by kernel_rfl) (by kernel_rfl) (by kernel_rfl) (Or.inl ⟨by rfl, fun w' hS => Or.inl ⟨w', ?_, hS⟩⟩) ?_
  rotate_left
  · go_simp
    all_goals with_reducible rfl
  simp only [Act.put, List.setIfInBounds_toArray, List.set_cons_zero, List.set_cons_succ]
  refine det_take (v := ?_) (i := 33) (fuel := 28) (by simp; rfl) (by kernel_rfl) (by kernel_rfl) (by kernel_rfl) (Or.inl ⟨by rfl, fun w' hS => Or.inl ⟨w', ?_, hS⟩⟩) ?_
  rotate_left
  · go_simp
    all_goals with_reducible rfl
  simp only [Act.put, List.setIfInBounds_toArray, List.set_cons_zero, List.set_cons_succ]
  refine det_take (v := ?_) (i := 34) (fuel := 27) (by simp; rfl) (by kernel_rfl) (by kernel_rfl) (by kernel_rfl) (Or.inl ⟨by rfl, fun w' hS => Or.inl ⟨w', ?_, hS⟩⟩) ?_
  rotate_left
  · obtain ⟨-, c0, c1, c2, c3⟩ := HB.dec (t := 25) (g := w7.heap.size) (a := .bool n7) (b := .int .u64 a7) (c := .int .u64 b7) (d := .int .i64 (s + t)) hS (by simp)
    go_simp
    all_goals with_reducible rfl
  simp only [Act.put, List.setIfInBounds_toArray, List.set_cons_zero, List.set_cons_succ]
  refine det_take (v := ?_) (i := 35) (fuel := 26) (by simp; rfl) (by kernel_rfl) (by kernel_rfl) (by kernel_rfl) (Or.inl ⟨by rfl, fun w' hS => Or.inl ⟨w', ?_, hS⟩⟩) ?_
  rotate_left
  · obtain ⟨-, c0, c1, c2, c3⟩ := HB.dec (t := 25) (g := w8.heap.size) (a := .bool n7) (b := .int .u64 a7) (c := .int .u64 b7) (d := .int .i64 (s + t)) hS (by simp)
    go_simp
    all_goals with_reducible rfl
  simp only [Act.put, List.setIfInBounds_toArray, List.set_cons_zero, List.set_cons_succ]
  refine det_take (v := ?_) (i := 36) (fuel := 25) (by simp; rfl) (by kernel_rfl) (by kernel_rfl) (by kernel_rfl) (Or.inl ⟨by rfl, fun w' hS => Or.inl ⟨w', ?_, hS⟩⟩) ?_
  rotate_left
  · go_simp
    all_goals with_reducible rfl
  simp only [Act.put, List.setIfInBounds_toArray, List.set_cons_zero, List.set_cons_succ]
  refine det_take (v := ?_) (i := 37) (fuel := 24) (by simp; rfl) (by kernel_rfl) (by kernel_rfl) (by kernel_rfl) (Or.inl ⟨by rfl, fun w' hS => Or.inl ⟨w', ?_, hS⟩⟩) ?_
  rotate_left
  · go_simp
    all_goals with_reducible rfl
  simp only [Act.put, List.setIfInBounds_toArray, List.set_cons_zero, List.set_cons_succ]
  refine det_take (v := ?_) (i := 38) (fuel := 23) (by simp; rfl) (by kernel_rfl) (by kernel_rfl) (by kernel_rfl) (Or.inl ⟨by rfl, fun w' hS => Or.inl ⟨w', ?_, hS⟩⟩) ?_
  rotate_left
  · go_simp
    all_goals with_reducible rfl
  simp only [Act.put, List.setIfInBounds_toArray, List.set_cons_zero, List.set_cons_succ]
  refine det_take (v := ?_) (i := 39) (fuel := 22) (by simp; rfl) (by kernel_rfl) (by kernel_rfl) (by kernel_rfl) (Or.inl ⟨by rfl, fun w' hS => Or.inl ⟨w', ?_, hS⟩⟩) ?_
  rotate_left
  · obtain ⟨-, c0, c1, c2, c3⟩ := HB.dec (t := 25) (g := w9.heap.size) (a := .bool n9) (b := .int .u64 a9) (c := .int .u64 b9) (d := .int .i64 (s + t)) hS (by simp)
    go_simp
    all_goals with_reducible rfl
  simp only [Act.put, List.setIfInBounds_toArray, List.set_cons_zero, List.set_cons_succ]
  refine det_take (v := ?_) (i := 40) (fuel := 21) (by simp; rfl) (by kernel_rfl) (by kernel_rfl) (by kernel_rfl) (Or.inl ⟨by rfl, fun w' hS => Or.inl ⟨w', ?_, hS⟩⟩) ?_
  rotate_left
  · obtain ⟨-, c0, c1, c2, c3⟩ := HB.dec (t := 25) (g := w7.heap.size) (a := .bool n7) (b := .int .u64 a7) (c := .int .u64 b7) (d := .int .i64 (s + t)) hS (by simp)
    go_simp
    all_goals with_reducible rfl
  simp only [Act.put, List.setIfInBounds_toArray, List.set_cons_zero, List.set_cons_succ]
  refine det_take (v := ?_) (i := 41) (fuel := 20) (by simp; rfl) (by kernel_rfl) (by kernel_rfl) (by kernel_rfl) (Or.inl ⟨by rfl, fun w' hS => Or.inr ⟨23, #[.agg #[.bool n7, .int .u64 a7, .int .u64 b7, .int .i64 (s + t)]], w', ?_, ?_⟩⟩) ?_
  rotate_left
  · go_simp
    all_goals with_reducible rfl
  · exact (neg_v n7 a7 b7 (s + t) (x * y) n9 a9 b9 _ D7 D9' (by rw [Int.natAbs_mul]; exact Pxy.out) (Int.add_nonneg ls lt) st9).mono fun e w2 ⟨_, hv, he, hb⟩ => ⟨by rw [he, hv], HB.below hS hb⟩
  simp only [Act.put, List.setIfInBounds_toArray, List.set_cons_zero, List.set_cons_succ]
  refine det_take (v := ?_) (i := 42) (fuel := 19) (by simp; rfl) (by kernel_rfl) (by kernel_rfl) (by kernel_rfl) (Or.inl ⟨by rfl, fun w' hS => Or.inl ⟨w', ?_, hS⟩⟩) ?_
  rotate_left
  · go_simp
    all_goals with_reducible rfl
  simp only [Act.put, List.setIfInBounds_toArray, List.set_cons_zero, List.set_cons_succ]
  refine det_take (v := ?_) (i := 43) (fuel := 18) (by simp; rfl) (by kernel_rfl) (by kernel_rfl) (by kernel_rfl) (Or.inl ⟨by rfl, fun w' hS => Or.inl ⟨w', ?_, hS⟩⟩) ?_
  rotate_left
  · go_simp
    all_goals with_reducible rfl
  simp only [Act.put, List.setIfInBounds_toArray, List.set_cons_zero, List.set_cons_succ]
  refine det_take (v := ?_) (i := 44) (fuel := 17) (by simp; rfl) (by kernel_rfl) (by kernel_rfl) (by kernel_rfl) (Or.inl ⟨by rfl, fun w' hS => Or.inl ⟨w', ?_, hS⟩⟩) ?_
  rotate_left
  · go_simp
    all_goals with_reducible rfl
  simp only [Act.put, List.setIfInBounds_toArray, List.set_cons_zero, List.set_cons_succ]
  refine det_take (v := ?_) (i := 45) (fuel := 16) (by simp; rfl) (by kernel_rfl) (by kernel_rfl) (by kernel_rfl) (Or.inl ⟨by rfl, fun w' hS => Or.inl ⟨w', ?_, hS⟩⟩) ?_
  rotate_left
  · obtain ⟨-, c0, c1, c2, c3⟩ := HB.dec (t := 25) (g := w1.heap.size) (a := .bool n1) (b := .int .u64 a1) (c := .int .u64 b1) (d := .int .i64 s) hS (by simp)
    go_simp
    all_goals with_reducible rfl
  simp only [Act.put, List.setIfInBounds_toArray, List.set_cons_zero, List.set_cons_succ]
  refine det_take (v := ?_) (i := 46) (fuel := 15) (by simp; rfl) (by kernel_rfl) (by kernel_rfl) (by kernel_rfl) (Or.inl ⟨by rfl, fun w' hS => Or.inl ⟨w', ?_, hS⟩⟩) ?_
  rotate_left
  · obtain ⟨-, c0, c1, c2, c3⟩ := HB.dec (t := 25) (g := w2.heap.size) (a := .bool n2) (b := .int .u64 a2) (c := .int .u64 b2) (d := .int .i64 t) hS (by simp)
    go_simp
    all_goals with_reducible rfl
  simp only [Act.put, List.setIfInBounds_toArray, List.set_cons_zero, List.set_cons_succ]
  refine det_take (v := ?_) (i := 47) (fuel := 14) (by simp; rfl) (by kernel_rfl) (by kernel_rfl) (by kernel_rfl) (Or.inl ⟨by rfl, fun w' hS => Or.inr ⟨27, #[.agg #[.bool n1, .int .u64 a1, .int .u64 b1, .int .i64 s], .agg #[.bool n2, .int .u64 a2, .int .u64 b2, .int .i64 t]], w', ?_, ?_⟩⟩) ?_
  rotate_left
  · go_simp
    all_goals with_reducible rfl
  · exact (cmp_v n1 a1 b1 s x n2 a2 b2 t y r c _ D1 D2 HX.out.1 HY.out.1 ls lt s9 t9 hr hc).mono fun e w2 ⟨_, hv, he, hb⟩ => ⟨by rw [he, hv], HB.below hS hb⟩
  simp only [Act.put, List.setIfInBounds_toArray, List.set_cons_zero, List.set_cons_succ]
  refine det_take (v := ?_) (i := 48) (fuel := 13) (by simp; rfl) (by kernel_rfl) (by kernel_rfl) (by kernel_rfl) (Or.inl ⟨by rfl, fun w' hS => Or.inl ⟨w', ?_, hS⟩⟩) ?_
  rotate_left
  · obtain ⟨-, c0, c1, c2, c3⟩ := HB.dec (t := 25) (g := w4.heap.size) (a := .bool n4) (b := .int .u64 a4) (c := .int .u64 b4) (d := .int .i64 t) hS (by simp)
    go_simp
    all_goals with_reducible rfl
  simp only [Act.put, List.setIfInBounds_toArray, List.set_cons_zero, List.set_cons_succ]
  refine det_take (v := ?_) (i := 49) (fuel := 12) (by simp; rfl) (by kernel_rfl) (by kernel_rfl) (by kernel_rfl) (Or.inl ⟨by rfl, fun w' hS => Or.inl ⟨w', ?_, hS⟩⟩) ?_
  rotate_left
  · obtain ⟨-, c0, c1, c2, c3⟩ := HB.dec (t := 25) (g := w3.heap.size) (a := .bool n3) (b := .int .u64 a3) (c := .int .u64 b3) (d := .int .i64 s) hS (by simp)
    go_simp
    all_goals with_reducible rfl
  simp only [Act.put, List.setIfInBounds_toArray, List.set_cons_zero, List.set_cons_succ]
  refine det_take (v := ?_) (i := 50) (fuel := 11) (by simp; rfl) (by kernel_rfl) (by kernel_rfl) (by kernel_rfl) (Or.inl ⟨by rfl, fun w' hS => Or.inr ⟨27, #[.agg #[.bool n4, .int .u64 a4, .int .u64 b4, .int .i64 t], .agg #[.bool n3, .int .u64 a3, .int .u64 b3, .int .i64 s]], w', ?_, ?_⟩⟩) ?_
  rotate_left
  · go_simp
    all_goals with_reducible rfl
  · exact (cmp_v n4 a4 b4 t (-y) n3 a3 b3 s (-x) r c _ D4 D3 HY'.out.1 HX'.out.1 lt ls t9 s9 hr2 hc2).mono fun e w2 ⟨_, hv, he, hb⟩ => ⟨by rw [he, hv], HB.below hS hb⟩
  simp only [Act.put, List.setIfInBounds_toArray, List.set_cons_zero, List.set_cons_succ]
  refine det_take (v := ?_) (i := 51) (fuel := 10) (by simp; rfl) (by kernel_rfl) (by kernel_rfl) (by kernel_rfl) (Or.inl ⟨by rfl, fun w' hS => Or.inl ⟨w', ?_, hS⟩⟩) ?_
  rotate_left
  · go_simp
    all_goals with_reducible rfl
  simp only [Act.put, List.setIfInBounds_toArray, List.set_cons_zero, List.set_cons_succ]
  refine det_take (v := ?_) (i := 52) (fuel := 9) (by simp; rfl) (by kernel_rfl) (by kernel_rfl) (by kernel_rfl) (Or.inl ⟨by rfl, fun w' hS => Or.inl ⟨w', ?_, hS⟩⟩) ?_
  rotate_left
  · go_simp
    all_goals with_reducible rfl
  simp only [Act.put, List.setIfInBounds_toArray, List.set_cons_zero, List.set_cons_succ]
  refine det_take (v := ?_) (i := 53) (fuel := 8) (by simp; rfl) (by kernel_rfl) (by kernel_rfl) (by kernel_rfl) (Or.inl ⟨by rfl, fun w' hS => Or.inl ⟨w', ?_, hS⟩⟩) ?_
  rotate_left
  · go_simp
    all_goals with_reducible rfl
  simp only [Act.put, List.setIfInBounds_toArray, List.set_cons_zero, List.set_cons_succ]
  refine det_take (v := ?_) (i := 54) (fuel := 7) (by simp; rfl) (by kernel_rfl) (by kernel_rfl) (by kernel_rfl) (Or.inl ⟨by rfl, fun w' hS => Or.inl ⟨w', ?_, hS⟩⟩) ?_
  rotate_left
  · obtain ⟨-, c0, c1, c2, c3⟩ := HB.dec (t := 25) (g := w3.heap.size) (a := .bool n3) (b := .int .u64 a3) (c := .int .u64 b3) (d := .int .i64 s) hS (by simp)
    go_simp
    all_goals with_reducible rfl
  simp only [Act.put, List.setIfInBounds_toArray, List.set_cons_zero, List.set_cons_succ]
  refine det_take (v := ?_) (i := 55) (fuel := 6) (by simp; rfl) (by kernel_rfl) (by kernel_rfl) (by kernel_rfl) (Or.inl ⟨by rfl, fun w' hS => Or.inr ⟨25, #[.agg #[.bool n3, .int .u64 a3, .int .u64 b3, .int .i64 s]], w', ?_, ?_⟩⟩) ?_
  rotate_left
  · go_simp
    all_goals with_reducible rfl
  · exact (sign_v n3 a3 b3 s (-x) (-σ) _ D3 HX'.out.2 ls s9 hσ2).mono fun e w2 ⟨_, hv, he, hb⟩ => ⟨by rw [he, hv], HB.below hS hb⟩
  simp only [Act.put, List.setIfInBounds_toArray, List.set_cons_zero, List.set_cons_succ]
  refine det_take (v := ?_) (i := 56) (fuel := 5) (by simp; rfl) (by kernel_rfl) (by kernel_rfl) (by kernel_rfl) (Or.inl ⟨by rfl, fun w' hS => Or.inl ⟨w', ?_, hS⟩⟩) ?_
  rotate_left
  · obtain ⟨-, c0, c1, c2, c3⟩ := HB.dec (t := 25) (g := w1.heap.size) (a := .bool n1) (b := .int .u64 a1) (c := .int .u64 b1) (d := .int .i64 s) hS (by simp)
    go_simp
    all_goals with_reducible rfl
  simp only [Act.put, List.setIfInBounds_toArray, List.set_cons_zero, List.set_cons_succ]
  refine det_take (v := ?_) (i := 57) (fuel := 4) (by simp; rfl) (by kernel_rfl) (by kernel_rfl) (by kernel_rfl) (Or.inl ⟨by rfl, fun w' hS => Or.inr ⟨25, #[.agg #[.bool n1, .int .u64 a1, .int .u64 b1, .int .i64 s]], w', ?_, ?_⟩⟩) ?_
  rotate_left
  · go_simp
    all_goals with_reducible rfl
  · exact (sign_v n1 a1 b1 s x σ _ D1 HX.out.2 ls s9 hσ).mono fun e w2 ⟨_, hv, he, hb⟩ => ⟨by rw [he, hv], HB.below hS hb⟩
  simp only [Act.put, List.setIfInBounds_toArray, List.set_cons_zero, List.set_cons_succ]
  refine det_take (v := ?_) (i := 58) (fuel := 3) (by simp; rfl) (by kernel_rfl) (by kernel_rfl) (by kernel_rfl) (Or.inl ⟨by rfl, fun w' hS => Or.inl ⟨w', ?_, hS⟩⟩) ?_
  rotate_left
  · go_simp
    all_goals with_reducible rfl
  simp only [Act.put, List.setIfInBounds_toArray, List.set_cons_zero, List.set_cons_succ]
  refine det_take (v := ?_) (i := 59) (fuel := 2) (by simp; rfl) (by kernel_rfl) (by kernel_rfl) (by kernel_rfl) (Or.inl ⟨by rfl, fun w' hS => Or.inl ⟨w', ?_, hS⟩⟩) ?_
  rotate_left
  · go_simp
    all_goals with_reducible rfl
  simp only [Act.put, List.setIfInBounds_toArray, List.set_cons_zero, List.set_cons_succ]
  refine det_take (v := ?_) (i := 60) (fuel := 1) (by simp; rfl) (by kernel_rfl) (by kernel_rfl) (by kernel_rfl) (Or.inl ⟨by rfl, fun w' hS => Or.inl ⟨w', ?_, hS⟩⟩) ?_
  rotate_left
  · go_simp
    all_goals with_reducible rfl
  simp only [Act.put, List.setIfInBounds_toArray, List.set_cons_zero, List.set_cons_succ]
  refine det_take (v := ?_) (i := 61) (fuel := 0) (by simp; rfl) (by kernel_rfl) (by kernel_rfl) (by kernel_rfl) (Or.inl ⟨by rfl, fun w' hS => Or.inl ⟨w', ?_, hS⟩⟩) ?_
  rotate_left
  · go_simp
    all_goals with_reducible rfl
  simp only [Act.put, List.setIfInBounds_toArray, List.set_cons_zero, List.set_cons_succ]
  refine det_done (by kernel_rfl) (fun w' hS => ?_) _
  go_wp2
  go_ret
  exact ⟨_, rfl, rfl, HB.bel hS⟩
end Go.Proofs.YtfppkhbbcnplfaaGreatDoor

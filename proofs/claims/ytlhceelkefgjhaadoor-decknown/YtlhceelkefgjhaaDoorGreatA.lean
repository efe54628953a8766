/- dec.Scaled, of small ones, where it answers OK. -/
/- dec.Scaled, dec.Cmp at great decimals: what counts is the number at the common Scale. -/
import Derived.Test.YtlhceelkefgjhaaDoorDecF
import Derived.Test.YtlhceelkefgjhaaDoorHold
namespace Go.Proofs.YtlhceelkefgjhaaDoor
open Go.RowKit
set_option maxRecDepth 100000 in
set_option maxHeartbeats 1600000 in
theorem scaled_d (n : Bool) (a b s z t : Int) (w : World) (h : DecIs n a b z) (hz : Sm z) (h0 : 0 ≤ s) (hst : s ≤ t) (h9 : t ≤ 9) :
    Calls Tryd.prog 8 #[.agg #[.bool n, .int .u64 a, .int .u64 b, .int .i64 s], .int .i64 t] w (Ret w (IsDecE (zAt z s t) t 0)) := by
  rw [zAt_of s t h]
  have s9 : s ≤ 9 := by omega
  have t0 : 0 ≤ t := by omega
  have HU := Lib.hid (up_lt9 (z := z) (s := s) (t := t) hz h0 h9)
  have HH := Lib.hid h
  have HZ := Lib.hid hz
  clear h hz
  have W : HB w [(w.heap.size + 1, 26, #[.bool false, .int .u64 0, .int .u64 0, .int .i64 0]), (w.heap.size, 26, #[.bool n, .int .u64 a, .int .u64 b, .int .i64 s])] ((w.alloc (.cells #[.bool n, .int .u64 a, .int .u64 b, .int .i64 s] 26)).alloc (.cells #[.bool false, .int .u64 0, .int .u64 0, .int .i64 0] 26)) := by
    have h := ((HB.start (Below.refl _ w)).push #[.bool n, .int .u64 a, .int .u64 b, .int .i64 s] 26).push #[.bool false, .int .u64 0, .int .u64 0, .int .i64 0] 26
    simpa using h
  have hlg : w.heap.size ≤ w.heap.size + 1 := by omega
  go_enter Tryd.func8, Tryd.ntmps8
  go_wp2_with fail
  refine (right_d n a b s z _ HH.out (sm_30 HZ.out) h0 s9).mono ?_
  rintro e w1 ⟨_, rfl, rfl, hb⟩
  replace W := W.below hb
  clear hb
  obtain ⟨lq, q0, q1, q2, q3⟩ := HB.dec (t := 26) (g := w.heap.size) (a := .bool n) (b := .int .u64 a) (c := .int .u64 b) (d := .int .i64 s) W (by simp)
  go_wp2_with fail
  refine (sizeAt_d n a b s t z _ HH.out HZ.out h0 hst h9).mono ?_
  rintro e w2 ⟨_, ⟨x, y, ⟨hx, hy, ex⟩, rfl⟩, rfl, hb⟩
  replace W := W.below hb
  clear hb lq q0 q1 q2 q3
  have EX := Lib.hid ex
  clear ex
  obtain ⟨lq, q0, q1, q2, q3⟩ := HB.dec (t := 26) (g := w.heap.size) (a := .bool n) (b := .int .u64 a) (c := .int .u64 b) (d := .int .i64 s) W (by simp)
  replace W := W.push #[.int .u64 x, .int .u64 y] 24
  go_wp2_with fail
  refine (checked_d n x y t _ hx hy (by rw [EX.out]; have := HU.out; omega) t0 h9).mono ?_
  rintro e w3 ⟨_, ⟨n2, a2, b2, D2, rfl⟩, rfl, hb⟩
  rw [EX.out] at D2
  have HD2 := Lib.hid D2
  replace W := W.below hb
  clear hb lq q0 q1 q2 q3 D2
  obtain ⟨ly, y0, y1, y2, y3⟩ := HB.dec (t := 26) (g := w.heap.size + 1) (a := .bool false) (b := .int .u64 0) (c := .int .u64 0) (d := .int .i64 0) W (by simp)
  have Bz := HB.blk (g := w.heap.size + 1) (t := 26) (cs := #[.bool false, .int .u64 0, .int .u64 0, .int .i64 0]) W (by simp)
  have fz0 := Bz.frozen 0
  have fz1 := Bz.frozen 1
  have fz2 := Bz.frozen 2
  have fz3 := Bz.frozen 3
  clear Bz
  have HB1 := Lib.hid W.1
  clear W
  go_wp2
  exact bodyPost_ret (v := .tuple #[.agg #[.bool n2, .int .u64 a2, .int .u64 b2, .int .i64 t], .int .i64 0]) (by simp [results, Tryd.results8, go_sem, y0, y1, y2, y3]) rfl ⟨_, ⟨_, _, _, HD2.out, rfl⟩, rfl, bel4 HB1.out hlg⟩
end Go.Proofs.YtlhceelkefgjhaaDoor

namespace Go.Proofs.YtlhceelkefgjhaaDoor
open Go.RowKit
/-- At Scale t its number has at most thirty digits. -/
def Gr (z s t : Int) : Prop := upN z s t < 1000000000000000000000000000000
theorem gr_up {z s t : Int} (h : Gr z s t) : upN z s t < 1000000000000000000000000000000 := h
theorem gr_30 {z s t : Int} (h : Gr z s t) : z.natAbs < 1000000000000000000000000000000 := by
  unfold Gr upN at h
  have := Nat.le_mul_of_pos_right z.natAbs (Nat.pow_pos (n := (t - s).toNat) (show 0 < 10 by decide))
  omega
theorem size_fin_g {a b x y c0 c1 c2 c3 s0 s1 z s t : Int} {p : Bool} (hz : Gr z s t) (ea : v2 a b = z.natAbs) (ex : v2 x y = 10 ^ (t - s).toNat) (hm : MulR a b x y c0 c1 c2 c3) (hs : ShortR c0 c1 c2 c3 s0 s1 p) : p = true ∧ U64 s0 ∧ U64 s1 ∧ v2 s0 s1 = z.natAbs * 10 ^ (t - s).toNat := by
  unfold Gr upN at hz
  have := mul_short hm hs (by rw [ea, ex]; omega)
  rwa [ea, ex] at this
set_option maxRecDepth 100000 in
set_option maxHeartbeats 1600000 in
theorem sizeAt_g (n : Bool) (a b s t z : Int) (w : World) (h : DecIs n a b z) (hz : Gr z s t) (h0 : 0 ≤ s) (hst : s ≤ t) (h9 : t ≤ 9) :
    Calls Tryd.prog 27 #[.agg #[.bool n, .int .u64 a, .int .u64 b, .int .i64 s], .int .i64 t] w (Ret w (IsUp (upN z s t))) := by
  have W : HB w [(w.heap.size + 1, 24, #[.int .u64 0, .int .u64 0]), (w.heap.size, 26, #[.bool n, .int .u64 a, .int .u64 b, .int .i64 s])] ((w.alloc (.cells #[.bool n, .int .u64 a, .int .u64 b, .int .i64 s] 26)).alloc (.cells #[.int .u64 0, .int .u64 0] 24)) := by
    have h := ((HB.start (Below.refl _ w)).push #[.bool n, .int .u64 a, .int .u64 b, .int .i64 s] 26).push #[.int .u64 0, .int .u64 0] 24
    simpa using h
  have hle : w.heap.size ≤ w.heap.size + 1 := by omega
  have hk9 : (t - s).toNat ≤ 9 := by omega
  have ha := h.2.1
  have hb' := h.2.2.1
  have HE := Lib.hid h.2.2.2
  have HZ := Lib.hid hz
  clear hz h
  go_enter Tryd.func27, Tryd.ntmps27
  go_wp2_with fail
  refine (ten_c (t - s) _).mono ?_
  rintro e w1 ⟨_, ⟨x, y, p, HT, rfl⟩, rfl, hb⟩
  replace W := W.below hb
  clear hb
  obtain ⟨hx, hy, ex⟩ := ten_fin HT (by omega) (by omega)
  have EX := Lib.hid ex
  clear ex HT
  obtain ⟨lq, q0, q1, q2, q3⟩ := HB.dec (t := 26) (g := w.heap.size) (a := .bool n) (b := .int .u64 a) (c := .int .u64 b) (d := .int .i64 s) W (by simp)
  replace W := W.push #[.int .u64 x, .int .u64 y] 24
  go_wp2_with fail
  refine (mul_c a b x y _ ha hb' hx hy).mono ?_
  rintro e w2 ⟨_, ⟨c0, c1, c2, c3, HM, rfl⟩, rfl, hb⟩
  replace W := W.below hb
  clear hb lq q0 q1 q2 q3
  go_wp2_with fail
  refine (short_c c0 c1 c2 c3 _).mono ?_
  rintro e w3 ⟨_, ⟨s0, s1, p', HS, rfl⟩, rfl, hb⟩
  replace W := W.below hb
  clear hb
  obtain ⟨rfl, hs0, hs1, es⟩ := size_fin_g HZ.out HE.out EX.out HM HS
  have ES := Lib.hid es
  clear es HM HS
  obtain ⟨lq, q0, q1⟩ := HB.two (t := 24) (g := w.heap.size + 1) (a := .int .u64 0) (b := .int .u64 0) W (by simp)
  have Bz := HB.blk (g := w.heap.size + 1) (t := 24) (cs := #[.int .u64 0, .int .u64 0]) W (by simp)
  have fz0 := Bz.frozen 0
  have fz1 := Bz.frozen 1
  clear Bz
  have HB1 := Lib.hid W.1
  clear W
  go_wp2
  exact bodyPost_ret (v := .tuple #[.agg #[.int .u64 s0, .int .u64 s1], .bool true]) (by simp [results, Tryd.results27, go_sem, q0, q1]) rfl ⟨_, ⟨_, _, ⟨hs0, hs1, ES.out⟩, rfl⟩, rfl, bel2 HB1.out hle⟩
set_option maxRecDepth 100000 in
set_option maxHeartbeats 1600000 in
theorem bothAt_g (n : Bool) (a b s z : Int) (n' : Bool) (a' b' s' z' : Int) (t : Int) (w : World) (h : DecIs n a b z) (h' : DecIs n' a' b' z') (hz : Gr z s t) (hz' : Gr z' s' t) (h0 : 0 ≤ s) (h0' : 0 ≤ s') (hst : s ≤ t) (hst' : s' ≤ t) (h9 : t ≤ 9) :
    Calls Tryd.prog 22 #[.agg #[.bool n, .int .u64 a, .int .u64 b, .int .i64 s], .agg #[.bool n', .int .u64 a', .int .u64 b', .int .i64 s'], .int .i64 t] w (Ret w (IsUp2 (upN z s t) (upN z' s' t))) := by
  have W : HB w [(w.heap.size + 1 + 1 + 1, 24, #[.int .u64 0, .int .u64 0]), (w.heap.size + 1 + 1, 24, #[.int .u64 0, .int .u64 0]), (w.heap.size + 1, 26, #[.bool n', .int .u64 a', .int .u64 b', .int .i64 s']), (w.heap.size, 26, #[.bool n, .int .u64 a, .int .u64 b, .int .i64 s])] ((((w.alloc (.cells #[.bool n, .int .u64 a, .int .u64 b, .int .i64 s] 26)).alloc (.cells #[.bool n', .int .u64 a', .int .u64 b', .int .i64 s'] 26)).alloc (.cells #[.int .u64 0, .int .u64 0] 24)).alloc (.cells #[.int .u64 0, .int .u64 0] 24)) := by
    have h := ((((HB.start (Below.refl _ w)).push #[.bool n, .int .u64 a, .int .u64 b, .int .i64 s] 26).push #[.bool n', .int .u64 a', .int .u64 b', .int .i64 s'] 26).push #[.int .u64 0, .int .u64 0] 24).push #[.int .u64 0, .int .u64 0] 24
    simpa using h
  have hle : w.heap.size ≤ w.heap.size + 1 + 1 := by omega
  have hle' : w.heap.size ≤ w.heap.size + 1 + 1 + 1 := by omega
  have Hh := Lib.hid h
  have H'h := Lib.hid h'
  have HZh := Lib.hid hz
  have HZ'h := Lib.hid hz'
  clear h h' hz hz'
  go_enter Tryd.func22, Tryd.ntmps22
  go_wp2_with fail
  refine (sizeAt_g n a b s t z _ Hh.out HZh.out h0 hst h9).mono ?_
  rintro e w1 ⟨_, ⟨x, y, ⟨hx, hy, ex⟩, rfl⟩, rfl, hb⟩
  replace W := W.below hb
  clear hb
  have EX := Lib.hid ex
  clear ex
  obtain ⟨lq, q0, q1, q2, q3⟩ := HB.dec (t := 26) (g := w.heap.size + 1) (a := .bool n') (b := .int .u64 a') (c := .int .u64 b') (d := .int .i64 s') W (by simp)
  obtain ⟨lp, p0, p1⟩ := HB.two (t := 24) (g := w.heap.size + 1 + 1) (a := .int .u64 0) (b := .int .u64 0) W (by simp)
  have Bz := HB.blk (g := w.heap.size + 1 + 1) (t := 24) (cs := #[.int .u64 0, .int .u64 0]) W (by simp)
  have fz0 := Bz.frozen 0
  have fz1 := Bz.frozen 1
  clear Bz
  replace W := HB.put2 (g := w.heap.size + 1 + 1) (t := 24) (a' := .int .u64 x) (b' := .int .u64 y) (bs' := [(w.heap.size + 1 + 1 + 1, 24, #[.int .u64 0, .int .u64 0]), (w.heap.size + 1, 26, #[.bool n', .int .u64 a', .int .u64 b', .int .i64 s'])]) W (a := .int .u64 0) (b := .int .u64 0) (by simp) hle (by simp)
  go_wp2_with fail
  refine (sizeAt_g n' a' b' s' t z' _ H'h.out HZ'h.out h0' hst' h9).mono ?_
  rintro e w2 ⟨_, ⟨x', y', ⟨hx', hy', ex'⟩, rfl⟩, rfl, hb⟩
  replace W := W.below hb
  clear hb lq q0 q1 q2 q3 lp p0 p1 fz0 fz1
  have EX' := Lib.hid ex'
  clear ex'
  obtain ⟨lq, q0, q1⟩ := HB.two (t := 24) (g := w.heap.size + 1 + 1) (a := .int .u64 x) (b := .int .u64 y) W (by simp)
  obtain ⟨lp, p0, p1⟩ := HB.two (t := 24) (g := w.heap.size + 1 + 1 + 1) (a := .int .u64 0) (b := .int .u64 0) W (by simp)
  have Bz := HB.blk (g := w.heap.size + 1 + 1) (t := 24) (cs := #[.int .u64 x, .int .u64 y]) W (by simp)
  have fz0 := Bz.frozen 0
  have fz1 := Bz.frozen 1
  clear Bz
  have By := HB.blk (g := w.heap.size + 1 + 1 + 1) (t := 24) (cs := #[.int .u64 0, .int .u64 0]) W (by simp)
  have fy0 := By.frozen 0
  have fy1 := By.frozen 1
  clear By
  have HB2 := HB.put2 (g := w.heap.size + 1 + 1 + 1) (t := 24) (a := .int .u64 0) (b := .int .u64 0) (a' := .int .u64 x') (b' := .int .u64 y') (bs' := [(w.heap.size + 1 + 1, 24, #[.int .u64 x, .int .u64 y])]) W (by simp) hle' (by simp)
  have HB3 := HB.put2 (g := w.heap.size + 1 + 1) (t := 24) (a := .int .u64 x) (b := .int .u64 y) (a' := .int .u64 x) (b' := .int .u64 y) (bs' := [(w.heap.size + 1 + 1 + 1, 24, #[.int .u64 x', .int .u64 y'])]) HB2 (by simp) hle (by simp)
  have HB4 := HB.put2 (g := w.heap.size + 1 + 1 + 1) (t := 24) (a := .int .u64 x') (b := .int .u64 y') (a' := .int .u64 x') (b' := .int .u64 y') (bs' := [(w.heap.size + 1 + 1, 24, #[.int .u64 x, .int .u64 y])]) HB3 (by simp) hle' (by simp)
  obtain ⟨lr, r0, r1⟩ := HB.two (t := 24) (g := w.heap.size + 1 + 1) (a := .int .u64 x) (b := .int .u64 y) HB4 (by simp)
  obtain ⟨ls, s0, s1⟩ := HB.two (t := 24) (g := w.heap.size + 1 + 1 + 1) (a := .int .u64 x') (b := .int .u64 y') HB4 (by simp)
  have HB1 := Lib.hid HB4.1
  have R0 := Lib.hid r0
  have R1 := Lib.hid r1
  have S0 := Lib.hid s0
  have S1 := Lib.hid s1
  clear W HB2 HB3 HB4 r0 r1 s0 s1 lr ls
  go_wp2
  go_region
  all_goals
    go_wp2
    refine bodyPost_ret (v := .tuple #[.agg #[.int .u64 x, .int .u64 y], .agg #[.int .u64 x', .int .u64 y'], .bool true]) (by simp [results, Tryd.results22, go_sem, R0.out, R1.out, S0.out, S1.out]) rfl ⟨_, ⟨_, _, _, _, ⟨hx, hy, EX.out⟩, ⟨hx', hy', EX'.out⟩, rfl⟩, rfl, ?_⟩
    exact HB1.out.drew
set_option maxRecDepth 100000 in
set_option maxHeartbeats 1600000 in
theorem cmpSize_g (n : Bool) (a b s z : Int) (n' : Bool) (a' b' s' z' t : Int) (w : World) (h : DecIs n a b z) (h' : DecIs n' a' b' z') (hz : Gr z s t) (hz' : Gr z' s' t) (h0 : 0 ≤ s) (h0' : 0 ≤ s') (h9 : s ≤ 9) (h9' : s' ≤ 9) (ht : (s < s' ∧ s' = t) ∨ (s' ≤ s ∧ s = t)) :
    Calls Tryd.prog 30 #[.agg #[.bool n, .int .u64 a, .int .u64 b, .int .i64 s], .agg #[.bool n', .int .u64 a', .int .u64 b', .int .i64 s']] w (Ret w (IsInt (cmpI (upN z s t) (upN z' s' t)))) := by
  have ht9 : t ≤ 9 := by omega
  have hst : s ≤ t := by omega
  have hst' : s' ≤ t := by omega
  have hH := Lib.hid h
  have h'H := Lib.hid h'
  have hzH := Lib.hid hz
  have hz'H := Lib.hid hz'
  clear h h' hz hz'
  have W : HB w [(w.heap.size + 1, 26, #[.bool n', .int .u64 a', .int .u64 b', .int .i64 s']), (w.heap.size, 26, #[.bool n, .int .u64 a, .int .u64 b, .int .i64 s])] ((w.alloc (.cells #[.bool n, .int .u64 a, .int .u64 b, .int .i64 s] 26)).alloc (.cells #[.bool n', .int .u64 a', .int .u64 b', .int .i64 s'] 26)) := by
    have h := ((HB.start (Below.refl _ w)).push #[.bool n, .int .u64 a, .int .u64 b, .int .i64 s] 26).push #[.bool n', .int .u64 a', .int .u64 b', .int .i64 s'] 26
    simpa using h
  rcases ht with ⟨hss, rfl⟩ | ⟨hss, rfl⟩
  · go_enter Tryd.func30, Tryd.ntmps30
    go_wp2_with fail
    rw [show max s s' = s' by omega]
    go_wp2_with fail
    refine (bothAt_g n a b s z n' a' b' s' z' s' _ hH.out h'H.out hzH.out hz'H.out h0 h0' hst hst' ht9).mono ?_
    rintro e w3 ⟨_, ⟨x, y, x', y', ⟨hx, hy, ex⟩, ⟨hx', hy', ex'⟩, rfl⟩, rfl, hb⟩
    replace W := W.below hb
    clear hb
    have EX := Lib.hid ex
    have EX' := Lib.hid ex'
    clear ex ex'
    replace W := (W.push #[.int .u64 x, .int .u64 y] 24).push #[.int .u64 x', .int .u64 y'] 24
    simp only [World.size_alloc] at W
    go_wp2_with fail
    refine (cmp_c x y x' y' _ hx hy hx' hy').mono ?_
    rintro e w4 ⟨v, hv, rfl, hb⟩
    replace W := W.below hb
    clear hb
    rw [EX.out, EX'.out] at hv
    obtain rfl : v = .int .i64 _ := hv
    have HB1 := Lib.hid W.1
    clear W
    go_wp2
    go_ret
    exact ⟨_, rfl, rfl, HB1.out⟩
  · go_enter Tryd.func30, Tryd.ntmps30
    go_wp2_with fail
    rw [show max s s' = s by omega]
    go_wp2_with fail
    refine (bothAt_g n a b s z n' a' b' s' z' s _ hH.out h'H.out hzH.out hz'H.out h0 h0' hst hst' ht9).mono ?_
    rintro e w3 ⟨_, ⟨x, y, x', y', ⟨hx, hy, ex⟩, ⟨hx', hy', ex'⟩, rfl⟩, rfl, hb⟩
    replace W := W.below hb
    clear hb
    have EX := Lib.hid ex
    have EX' := Lib.hid ex'
    clear ex ex'
    replace W := (W.push #[.int .u64 x, .int .u64 y] 24).push #[.int .u64 x', .int .u64 y'] 24
    simp only [World.size_alloc] at W
    go_wp2_with fail
    refine (cmp_c x y x' y' _ hx hy hx' hy').mono ?_
    rintro e w4 ⟨v, hv, rfl, hb⟩
    replace W := W.below hb
    clear hb
    rw [EX.out, EX'.out] at hv
    obtain rfl : v = .int .i64 _ := hv
    have HB1 := Lib.hid W.1
    clear W
    go_wp2
    go_ret
    exact ⟨_, rfl, rfl, HB1.out⟩
set_option maxRecDepth 100000 in
set_option maxHeartbeats 1600000 in
theorem cmpG_eq (n : Bool) (a b s z z' t : Int) (w : World) (h : DecIs n a b z) (h' : DecIs n a b z') (hz : Gr z s t) (hz' : Gr z' s t) (h0 : 0 ≤ s) (_h0' : 0 ≤ s) (h9 : s ≤ 9) (_h9' : s ≤ 9) (_ht : (s < s ∧ s = t) ∨ (s ≤ s ∧ s = t)) :
    Calls Tryd.prog 12 #[.agg #[.bool n, .int .u64 a, .int .u64 b, .int .i64 s], .agg #[.bool n, .int .u64 a, .int .u64 b, .int .i64 s]] w (Ret w (IsInt (cmpZ (zAt z s t) (zAt z' s t)))) := by
  have W : HB w [(w.heap.size + 1, 26, #[.bool n, .int .u64 a, .int .u64 b, .int .i64 s]), (w.heap.size, 26, #[.bool n, .int .u64 a, .int .u64 b, .int .i64 s])] ((w.alloc (.cells #[.bool n, .int .u64 a, .int .u64 b, .int .i64 s] 26)).alloc (.cells #[.bool n, .int .u64 a, .int .u64 b, .int .i64 s] 26)) := by
    have h := ((HB.start (Below.refl _ w)).push #[.bool n, .int .u64 a, .int .u64 b, .int .i64 s] 26).push #[.bool n, .int .u64 a, .int .u64 b, .int .i64 s] 26
    simpa using h
  have ez := dec_same h h'
  subst ez
  have e0 : cmpZ (zAt z s t) (zAt z s t) = 0 := by unfold cmpZ; rw [if_pos rfl]
  rw [e0]
  clear e0
  have hq := eqW2_yes (a := a) (b := b) (c := a) (d := b) ⟨rfl, rfl⟩
  have hH := Lib.hid h
  have h'H := Lib.hid h'
  have hzH := Lib.hid hz
  have hz'H := Lib.hid hz'
  clear h h' hz hz'
  go_enter Tryd.func12, Tryd.ntmps12
  go_wp2_with fail
  refine (right_d n a b s z _ hH.out (gr_30 hzH.out) h0 h9).mono ?_
  rintro e w1 ⟨_, rfl, rfl, hb⟩
  replace W := W.below hb
  clear hb
  obtain ⟨lq, q0, q1, q2, q3⟩ := HB.dec (t := 26) (g := w.heap.size + 1) (a := .bool n) (b := .int .u64 a) (c := .int .u64 b) (d := .int .i64 s) W (by simp)
  go_wp2_with fail
  refine (right_d n a b s z _ hH.out (gr_30 hzH.out) h0 h9).mono ?_
  rintro e w2 ⟨_, rfl, rfl, hb⟩
  replace W := W.below hb
  clear hb lq q0 q1 q2 q3
  obtain ⟨lp, p0, p1, p2, p3⟩ := HB.dec (t := 26) (g := w.heap.size) (a := .bool n) (b := .int .u64 a) (c := .int .u64 b) (d := .int .i64 s) W (by simp)
  obtain ⟨lq, q0, q1, q2, q3⟩ := HB.dec (t := 26) (g := w.heap.size + 1) (a := .bool n) (b := .int .u64 a) (c := .int .u64 b) (d := .int .i64 s) W (by simp)
  have HB1 := Lib.hid W.1
  clear W
  go_wp2
  go_ret
  exact ⟨_, rfl, rfl, HB1.out⟩
set_option maxRecDepth 100000 in
set_option maxHeartbeats 1600000 in
theorem cmpG_n (n : Bool) (n' : Bool) (a b s z a' b' s' z' t : Int) (w : World) (h : DecIs n a b z) (h' : DecIs n' a' b' z') (hz : Gr z s t) (hz' : Gr z' s' t) (h0 : 0 ≤ s) (h0' : 0 ≤ s') (h9 : s ≤ 9) (h9' : s' ≤ 9) (ht : (s < s' ∧ s' = t) ∨ (s' ≤ s ∧ s = t)) (hk : (n == n') = false) :
    Calls Tryd.prog 12 #[.agg #[.bool n, .int .u64 a, .int .u64 b, .int .i64 s], .agg #[.bool n', .int .u64 a', .int .u64 b', .int .i64 s']] w (Ret w (IsInt (cmpZ (zAt z s t) (zAt z' s' t)))) := by
  have W : HB w [(w.heap.size + 1, 26, #[.bool n', .int .u64 a', .int .u64 b', .int .i64 s']), (w.heap.size, 26, #[.bool n, .int .u64 a, .int .u64 b, .int .i64 s])] ((w.alloc (.cells #[.bool n, .int .u64 a, .int .u64 b, .int .i64 s] 26)).alloc (.cells #[.bool n', .int .u64 a', .int .u64 b', .int .i64 s'] 26)) := by
    have h := ((HB.start (Below.refl _ w)).push #[.bool n, .int .u64 a, .int .u64 b, .int .i64 s] 26).push #[.bool n', .int .u64 a', .int .u64 b', .int .i64 s'] 26
    simpa using h
  have hH := Lib.hid h
  have h'H := Lib.hid h'
  have hzH := Lib.hid hz
  have hz'H := Lib.hid hz'
  clear h h' hz hz'
  by_cases hsg : z.sign = z'.sign
  · have HE := Lib.hid (cmp_same z s z' s' t hsg)
    have g : (z.sign != z'.sign) = false := by simp [hsg]
    have htH := Lib.hid ht
    clear ht hsg
    go_enter Tryd.func12, Tryd.ntmps12
    go_wp2_with fail
    refine (right_d n a b s z _ hH.out (gr_30 hzH.out) h0 h9).mono ?_
    rintro e w1 ⟨_, rfl, rfl, hb⟩
    replace W := W.below hb
    clear hb
    obtain ⟨lq, q0, q1, q2, q3⟩ := HB.dec (t := 26) (g := w.heap.size + 1) (a := .bool n') (b := .int .u64 a') (c := .int .u64 b') (d := .int .i64 s') W (by simp)
    go_wp2_with fail
    refine (right_d n' a' b' s' z' _ h'H.out (gr_30 hz'H.out) h0' h9').mono ?_
    rintro e w2 ⟨_, rfl, rfl, hb⟩
    replace W := W.below hb
    clear hb lq q0 q1 q2 q3
    obtain ⟨lp, p0, p1, p2, p3⟩ := HB.dec (t := 26) (g := w.heap.size) (a := .bool n) (b := .int .u64 a) (c := .int .u64 b) (d := .int .i64 s) W (by simp)
    obtain ⟨lq, q0, q1, q2, q3⟩ := HB.dec (t := 26) (g := w.heap.size + 1) (a := .bool n') (b := .int .u64 a') (c := .int .u64 b') (d := .int .i64 s') W (by simp)
    go_wp2_with fail
    refine (sign_d n a b s z _ hH.out (gr_30 hzH.out) h0 h9).mono ?_
    rintro e w3 ⟨_, rfl, rfl, hb⟩
    replace W := W.below hb
    clear hb lq q0 q1 q2 q3 lp p0 p1 p2 p3
    obtain ⟨lq, q0, q1, q2, q3⟩ := HB.dec (t := 26) (g := w.heap.size + 1) (a := .bool n') (b := .int .u64 a') (c := .int .u64 b') (d := .int .i64 s') W (by simp)
    go_wp2_with fail
    refine (sign_d n' a' b' s' z' _ h'H.out (gr_30 hz'H.out) h0' h9').mono ?_
    rintro e w4 ⟨_, rfl, rfl, hb⟩
    replace W := W.below hb
    clear hb lq q0 q1 q2 q3
    obtain ⟨lp, p0, p1, p2, p3⟩ := HB.dec (t := 26) (g := w.heap.size) (a := .bool n) (b := .int .u64 a) (c := .int .u64 b) (d := .int .i64 s) W (by simp)
    obtain ⟨lq, q0, q1, q2, q3⟩ := HB.dec (t := 26) (g := w.heap.size + 1) (a := .bool n') (b := .int .u64 a') (c := .int .u64 b') (d := .int .i64 s') W (by simp)
    go_wp2_with fail
    refine (cmpSize_g n a b s z n' a' b' s' z' t _ hH.out h'H.out hzH.out hz'H.out h0 h0' h9 h9' htH.out).mono ?_
    rintro e w5 ⟨_, rfl, rfl, hb⟩
    replace W := W.below hb
    clear hb lq q0 q1 q2 q3 lp p0 p1 p2 p3
    have HB1 := Lib.hid W.1
    clear W
    have hw := sign_wrap z (upN z s t) (upN z' s' t)
    go_wp2
    go_ret
    exact ⟨_, ret_at HE.out.symm, rfl, HB1.out⟩
  · have HE := Lib.hid (cmp_diff z s z' s' t hsg)
    have g : (z.sign != z'.sign) = true := by simp [hsg]
    have htH := Lib.hid ht
    clear ht hsg
    go_enter Tryd.func12, Tryd.ntmps12
    go_wp2_with fail
    refine (right_d n a b s z _ hH.out (gr_30 hzH.out) h0 h9).mono ?_
    rintro e w1 ⟨_, rfl, rfl, hb⟩
    replace W := W.below hb
    clear hb
    obtain ⟨lq, q0, q1, q2, q3⟩ := HB.dec (t := 26) (g := w.heap.size + 1) (a := .bool n') (b := .int .u64 a') (c := .int .u64 b') (d := .int .i64 s') W (by simp)
    go_wp2_with fail
    refine (right_d n' a' b' s' z' _ h'H.out (gr_30 hz'H.out) h0' h9').mono ?_
    rintro e w2 ⟨_, rfl, rfl, hb⟩
    replace W := W.below hb
    clear hb lq q0 q1 q2 q3
    obtain ⟨lp, p0, p1, p2, p3⟩ := HB.dec (t := 26) (g := w.heap.size) (a := .bool n) (b := .int .u64 a) (c := .int .u64 b) (d := .int .i64 s) W (by simp)
    obtain ⟨lq, q0, q1, q2, q3⟩ := HB.dec (t := 26) (g := w.heap.size + 1) (a := .bool n') (b := .int .u64 a') (c := .int .u64 b') (d := .int .i64 s') W (by simp)
    go_wp2_with fail
    refine (sign_d n a b s z _ hH.out (gr_30 hzH.out) h0 h9).mono ?_
    rintro e w3 ⟨_, rfl, rfl, hb⟩
    replace W := W.below hb
    clear hb lq q0 q1 q2 q3 lp p0 p1 p2 p3
    obtain ⟨lq, q0, q1, q2, q3⟩ := HB.dec (t := 26) (g := w.heap.size + 1) (a := .bool n') (b := .int .u64 a') (c := .int .u64 b') (d := .int .i64 s') W (by simp)
    go_wp2_with fail
    refine (sign_d n' a' b' s' z' _ h'H.out (gr_30 hz'H.out) h0' h9').mono ?_
    rintro e w4 ⟨_, rfl, rfl, hb⟩
    replace W := W.below hb
    clear hb lq q0 q1 q2 q3
    obtain ⟨lp, p0, p1, p2, p3⟩ := HB.dec (t := 26) (g := w.heap.size) (a := .bool n) (b := .int .u64 a) (c := .int .u64 b) (d := .int .i64 s) W (by simp)
    obtain ⟨lq, q0, q1, q2, q3⟩ := HB.dec (t := 26) (g := w.heap.size + 1) (a := .bool n') (b := .int .u64 a') (c := .int .u64 b') (d := .int .i64 s') W (by simp)
    go_wp2_with fail
    refine (compare_c z.sign z'.sign _).mono ?_
    rintro e w5 ⟨rfl, rfl⟩
    have HB1 := Lib.hid W.1
    clear W
    go_wp2
    go_ret
    exact ⟨_, ret_at HE.out.symm, rfl, HB1.out⟩
set_option maxRecDepth 100000 in
set_option maxHeartbeats 1600000 in
theorem cmpG_c (n : Bool) (a b s z a' b' s' z' t : Int) (w : World) (h : DecIs n a b z) (h' : DecIs n a' b' z') (hz : Gr z s t) (hz' : Gr z' s' t) (h0 : 0 ≤ s) (h0' : 0 ≤ s') (h9 : s ≤ 9) (h9' : s' ≤ 9) (ht : (s < s' ∧ s' = t) ∨ (s' ≤ s ∧ s = t)) (hk : eqW2 a b a' b' = false) :
    Calls Tryd.prog 12 #[.agg #[.bool n, .int .u64 a, .int .u64 b, .int .i64 s], .agg #[.bool n, .int .u64 a', .int .u64 b', .int .i64 s']] w (Ret w (IsInt (cmpZ (zAt z s t) (zAt z' s' t)))) := by
  have W : HB w [(w.heap.size + 1, 26, #[.bool n, .int .u64 a', .int .u64 b', .int .i64 s']), (w.heap.size, 26, #[.bool n, .int .u64 a, .int .u64 b, .int .i64 s])] ((w.alloc (.cells #[.bool n, .int .u64 a, .int .u64 b, .int .i64 s] 26)).alloc (.cells #[.bool n, .int .u64 a', .int .u64 b', .int .i64 s'] 26)) := by
    have h := ((HB.start (Below.refl _ w)).push #[.bool n, .int .u64 a, .int .u64 b, .int .i64 s] 26).push #[.bool n, .int .u64 a', .int .u64 b', .int .i64 s'] 26
    simpa using h
  have hH := Lib.hid h
  have h'H := Lib.hid h'
  have hzH := Lib.hid hz
  have hz'H := Lib.hid hz'
  clear h h' hz hz'
  by_cases hsg : z.sign = z'.sign
  · have HE := Lib.hid (cmp_same z s z' s' t hsg)
    have g : (z.sign != z'.sign) = false := by simp [hsg]
    have htH := Lib.hid ht
    clear ht hsg
    go_enter Tryd.func12, Tryd.ntmps12
    go_wp2_with fail
    refine (right_d n a b s z _ hH.out (gr_30 hzH.out) h0 h9).mono ?_
    rintro e w1 ⟨_, rfl, rfl, hb⟩
    replace W := W.below hb
    clear hb
    obtain ⟨lq, q0, q1, q2, q3⟩ := HB.dec (t := 26) (g := w.heap.size + 1) (a := .bool n) (b := .int .u64 a') (c := .int .u64 b') (d := .int .i64 s') W (by simp)
    go_wp2_with fail
    refine (right_d n a' b' s' z' _ h'H.out (gr_30 hz'H.out) h0' h9').mono ?_
    rintro e w2 ⟨_, rfl, rfl, hb⟩
    replace W := W.below hb
    clear hb lq q0 q1 q2 q3
    obtain ⟨lp, p0, p1, p2, p3⟩ := HB.dec (t := 26) (g := w.heap.size) (a := .bool n) (b := .int .u64 a) (c := .int .u64 b) (d := .int .i64 s) W (by simp)
    obtain ⟨lq, q0, q1, q2, q3⟩ := HB.dec (t := 26) (g := w.heap.size + 1) (a := .bool n) (b := .int .u64 a') (c := .int .u64 b') (d := .int .i64 s') W (by simp)
    go_wp2_with fail
    refine (sign_d n a b s z _ hH.out (gr_30 hzH.out) h0 h9).mono ?_
    rintro e w3 ⟨_, rfl, rfl, hb⟩
    replace W := W.below hb
    clear hb lq q0 q1 q2 q3 lp p0 p1 p2 p3
    obtain ⟨lq, q0, q1, q2, q3⟩ := HB.dec (t := 26) (g := w.heap.size + 1) (a := .bool n) (b := .int .u64 a') (c := .int .u64 b') (d := .int .i64 s') W (by simp)
    go_wp2_with fail
    refine (sign_d n a' b' s' z' _ h'H.out (gr_30 hz'H.out) h0' h9').mono ?_
    rintro e w4 ⟨_, rfl, rfl, hb⟩
    replace W := W.below hb
    clear hb lq q0 q1 q2 q3
    obtain ⟨lp, p0, p1, p2, p3⟩ := HB.dec (t := 26) (g := w.heap.size) (a := .bool n) (b := .int .u64 a) (c := .int .u64 b) (d := .int .i64 s) W (by simp)
    obtain ⟨lq, q0, q1, q2, q3⟩ := HB.dec (t := 26) (g := w.heap.size + 1) (a := .bool n) (b := .int .u64 a') (c := .int .u64 b') (d := .int .i64 s') W (by simp)
    go_wp2_with fail
    refine (cmpSize_g n a b s z n a' b' s' z' t _ hH.out h'H.out hzH.out hz'H.out h0 h0' h9 h9' htH.out).mono ?_
    rintro e w5 ⟨_, rfl, rfl, hb⟩
    replace W := W.below hb
    clear hb lq q0 q1 q2 q3 lp p0 p1 p2 p3
    have HB1 := Lib.hid W.1
    clear W
    have hw := sign_wrap z (upN z s t) (upN z' s' t)
    go_wp2
    go_ret
    exact ⟨_, ret_at HE.out.symm, rfl, HB1.out⟩
  · have HE := Lib.hid (cmp_diff z s z' s' t hsg)
    have g : (z.sign != z'.sign) = true := by simp [hsg]
    have htH := Lib.hid ht
    clear ht hsg
    go_enter Tryd.func12, Tryd.ntmps12
    go_wp2_with fail
    refine (right_d n a b s z _ hH.out (gr_30 hzH.out) h0 h9).mono ?_
    rintro e w1 ⟨_, rfl, rfl, hb⟩
    replace W := W.below hb
    clear hb
    obtain ⟨lq, q0, q1, q2, q3⟩ := HB.dec (t := 26) (g := w.heap.size + 1) (a := .bool n) (b := .int .u64 a') (c := .int .u64 b') (d := .int .i64 s') W (by simp)
    go_wp2_with fail
    refine (right_d n a' b' s' z' _ h'H.out (gr_30 hz'H.out) h0' h9').mono ?_
    rintro e w2 ⟨_, rfl, rfl, hb⟩
    replace W := W.below hb
    clear hb lq q0 q1 q2 q3
    obtain ⟨lp, p0, p1, p2, p3⟩ := HB.dec (t := 26) (g := w.heap.size) (a := .bool n) (b := .int .u64 a) (c := .int .u64 b) (d := .int .i64 s) W (by simp)
    obtain ⟨lq, q0, q1, q2, q3⟩ := HB.dec (t := 26) (g := w.heap.size + 1) (a := .bool n) (b := .int .u64 a') (c := .int .u64 b') (d := .int .i64 s') W (by simp)
    go_wp2_with fail
    refine (sign_d n a b s z _ hH.out (gr_30 hzH.out) h0 h9).mono ?_
    rintro e w3 ⟨_, rfl, rfl, hb⟩
    replace W := W.below hb
    clear hb lq q0 q1 q2 q3 lp p0 p1 p2 p3
    obtain ⟨lq, q0, q1, q2, q3⟩ := HB.dec (t := 26) (g := w.heap.size + 1) (a := .bool n) (b := .int .u64 a') (c := .int .u64 b') (d := .int .i64 s') W (by simp)
    go_wp2_with fail
    refine (sign_d n a' b' s' z' _ h'H.out (gr_30 hz'H.out) h0' h9').mono ?_
    rintro e w4 ⟨_, rfl, rfl, hb⟩
    replace W := W.below hb
    clear hb lq q0 q1 q2 q3
    obtain ⟨lp, p0, p1, p2, p3⟩ := HB.dec (t := 26) (g := w.heap.size) (a := .bool n) (b := .int .u64 a) (c := .int .u64 b) (d := .int .i64 s) W (by simp)
    obtain ⟨lq, q0, q1, q2, q3⟩ := HB.dec (t := 26) (g := w.heap.size + 1) (a := .bool n) (b := .int .u64 a') (c := .int .u64 b') (d := .int .i64 s') W (by simp)
    go_wp2_with fail
    refine (compare_c z.sign z'.sign _).mono ?_
    rintro e w5 ⟨rfl, rfl⟩
    have HB1 := Lib.hid W.1
    clear W
    go_wp2
    go_ret
    exact ⟨_, ret_at HE.out.symm, rfl, HB1.out⟩
set_option maxRecDepth 100000 in
set_option maxHeartbeats 1600000 in
theorem cmpG_s (n : Bool) (a b s z s' z' t : Int) (w : World) (h : DecIs n a b z) (h' : DecIs n a b z') (hz : Gr z s t) (hz' : Gr z' s' t) (h0 : 0 ≤ s) (h0' : 0 ≤ s') (h9 : s ≤ 9) (h9' : s' ≤ 9) (ht : (s < s' ∧ s' = t) ∨ (s' ≤ s ∧ s = t)) (hk : (s == s') = false) :
    Calls Tryd.prog 12 #[.agg #[.bool n, .int .u64 a, .int .u64 b, .int .i64 s], .agg #[.bool n, .int .u64 a, .int .u64 b, .int .i64 s']] w (Ret w (IsInt (cmpZ (zAt z s t) (zAt z' s' t)))) := by
  have W : HB w [(w.heap.size + 1, 26, #[.bool n, .int .u64 a, .int .u64 b, .int .i64 s']), (w.heap.size, 26, #[.bool n, .int .u64 a, .int .u64 b, .int .i64 s])] ((w.alloc (.cells #[.bool n, .int .u64 a, .int .u64 b, .int .i64 s] 26)).alloc (.cells #[.bool n, .int .u64 a, .int .u64 b, .int .i64 s'] 26)) := by
    have h := ((HB.start (Below.refl _ w)).push #[.bool n, .int .u64 a, .int .u64 b, .int .i64 s] 26).push #[.bool n, .int .u64 a, .int .u64 b, .int .i64 s'] 26
    simpa using h
  have hq := eqW2_yes (a := a) (b := b) (c := a) (d := b) ⟨rfl, rfl⟩
  have hH := Lib.hid h
  have h'H := Lib.hid h'
  have hzH := Lib.hid hz
  have hz'H := Lib.hid hz'
  clear h h' hz hz'
  by_cases hsg : z.sign = z'.sign
  · have HE := Lib.hid (cmp_same z s z' s' t hsg)
    have g : (z.sign != z'.sign) = false := by simp [hsg]
    have htH := Lib.hid ht
    clear ht hsg
    go_enter Tryd.func12, Tryd.ntmps12
    go_wp2_with fail
    refine (right_d n a b s z _ hH.out (gr_30 hzH.out) h0 h9).mono ?_
    rintro e w1 ⟨_, rfl, rfl, hb⟩
    replace W := W.below hb
    clear hb
    obtain ⟨lq, q0, q1, q2, q3⟩ := HB.dec (t := 26) (g := w.heap.size + 1) (a := .bool n) (b := .int .u64 a) (c := .int .u64 b) (d := .int .i64 s') W (by simp)
    go_wp2_with fail
    refine (right_d n a b s' z' _ h'H.out (gr_30 hz'H.out) h0' h9').mono ?_
    rintro e w2 ⟨_, rfl, rfl, hb⟩
    replace W := W.below hb
    clear hb lq q0 q1 q2 q3
    obtain ⟨lp, p0, p1, p2, p3⟩ := HB.dec (t := 26) (g := w.heap.size) (a := .bool n) (b := .int .u64 a) (c := .int .u64 b) (d := .int .i64 s) W (by simp)
    obtain ⟨lq, q0, q1, q2, q3⟩ := HB.dec (t := 26) (g := w.heap.size + 1) (a := .bool n) (b := .int .u64 a) (c := .int .u64 b) (d := .int .i64 s') W (by simp)
    go_wp2_with fail
    refine (sign_d n a b s z _ hH.out (gr_30 hzH.out) h0 h9).mono ?_
    rintro e w3 ⟨_, rfl, rfl, hb⟩
    replace W := W.below hb
    clear hb lq q0 q1 q2 q3 lp p0 p1 p2 p3
    obtain ⟨lq, q0, q1, q2, q3⟩ := HB.dec (t := 26) (g := w.heap.size + 1) (a := .bool n) (b := .int .u64 a) (c := .int .u64 b) (d := .int .i64 s') W (by simp)
    go_wp2_with fail
    refine (sign_d n a b s' z' _ h'H.out (gr_30 hz'H.out) h0' h9').mono ?_
    rintro e w4 ⟨_, rfl, rfl, hb⟩
    replace W := W.below hb
    clear hb lq q0 q1 q2 q3
    obtain ⟨lp, p0, p1, p2, p3⟩ := HB.dec (t := 26) (g := w.heap.size) (a := .bool n) (b := .int .u64 a) (c := .int .u64 b) (d := .int .i64 s) W (by simp)
    obtain ⟨lq, q0, q1, q2, q3⟩ := HB.dec (t := 26) (g := w.heap.size + 1) (a := .bool n) (b := .int .u64 a) (c := .int .u64 b) (d := .int .i64 s') W (by simp)
    go_wp2_with fail
    refine (cmpSize_g n a b s z n a b s' z' t _ hH.out h'H.out hzH.out hz'H.out h0 h0' h9 h9' htH.out).mono ?_
    rintro e w5 ⟨_, rfl, rfl, hb⟩
    replace W := W.below hb
    clear hb lq q0 q1 q2 q3 lp p0 p1 p2 p3
    have HB1 := Lib.hid W.1
    clear W
    have hw := sign_wrap z (upN z s t) (upN z' s' t)
    go_wp2
    go_ret
    exact ⟨_, ret_at HE.out.symm, rfl, HB1.out⟩
  · have HE := Lib.hid (cmp_diff z s z' s' t hsg)
    have g : (z.sign != z'.sign) = true := by simp [hsg]
    have htH := Lib.hid ht
    clear ht hsg
    go_enter Tryd.func12, Tryd.ntmps12
    go_wp2_with fail
    refine (right_d n a b s z _ hH.out (gr_30 hzH.out) h0 h9).mono ?_
    rintro e w1 ⟨_, rfl, rfl, hb⟩
    replace W := W.below hb
    clear hb
    obtain ⟨lq, q0, q1, q2, q3⟩ := HB.dec (t := 26) (g := w.heap.size + 1) (a := .bool n) (b := .int .u64 a) (c := .int .u64 b) (d := .int .i64 s') W (by simp)
    go_wp2_with fail
    refine (right_d n a b s' z' _ h'H.out (gr_30 hz'H.out) h0' h9').mono ?_
    rintro e w2 ⟨_, rfl, rfl, hb⟩
    replace W := W.below hb
    clear hb lq q0 q1 q2 q3
    obtain ⟨lp, p0, p1, p2, p3⟩ := HB.dec (t := 26) (g := w.heap.size) (a := .bool n) (b := .int .u64 a) (c := .int .u64 b) (d := .int .i64 s) W (by simp)
    obtain ⟨lq, q0, q1, q2, q3⟩ := HB.dec (t := 26) (g := w.heap.size + 1) (a := .bool n) (b := .int .u64 a) (c := .int .u64 b) (d := .int .i64 s') W (by simp)
    go_wp2_with fail
    refine (sign_d n a b s z _ hH.out (gr_30 hzH.out) h0 h9).mono ?_
    rintro e w3 ⟨_, rfl, rfl, hb⟩
    replace W := W.below hb
    clear hb lq q0 q1 q2 q3 lp p0 p1 p2 p3
    obtain ⟨lq, q0, q1, q2, q3⟩ := HB.dec (t := 26) (g := w.heap.size + 1) (a := .bool n) (b := .int .u64 a) (c := .int .u64 b) (d := .int .i64 s') W (by simp)
    go_wp2_with fail
    refine (sign_d n a b s' z' _ h'H.out (gr_30 hz'H.out) h0' h9').mono ?_
    rintro e w4 ⟨_, rfl, rfl, hb⟩
    replace W := W.below hb
    clear hb lq q0 q1 q2 q3
    obtain ⟨lp, p0, p1, p2, p3⟩ := HB.dec (t := 26) (g := w.heap.size) (a := .bool n) (b := .int .u64 a) (c := .int .u64 b) (d := .int .i64 s) W (by simp)
    obtain ⟨lq, q0, q1, q2, q3⟩ := HB.dec (t := 26) (g := w.heap.size + 1) (a := .bool n) (b := .int .u64 a) (c := .int .u64 b) (d := .int .i64 s') W (by simp)
    go_wp2_with fail
    refine (compare_c z.sign z'.sign _).mono ?_
    rintro e w5 ⟨rfl, rfl⟩
    have HB1 := Lib.hid W.1
    clear W
    go_wp2
    go_ret
    exact ⟨_, ret_at HE.out.symm, rfl, HB1.out⟩
theorem cmp_g (n : Bool) (a b s z : Int) (n' : Bool) (a' b' s' z' t : Int) (w : World) (h : DecIs n a b z) (h' : DecIs n' a' b' z') (hz : Gr z s t) (hz' : Gr z' s' t) (h0 : 0 ≤ s) (h0' : 0 ≤ s') (h9 : s ≤ 9) (h9' : s' ≤ 9) (ht : (s < s' ∧ s' = t) ∨ (s' ≤ s ∧ s = t)) :
    Calls Tryd.prog 12 #[.agg #[.bool n, .int .u64 a, .int .u64 b, .int .i64 s], .agg #[.bool n', .int .u64 a', .int .u64 b', .int .i64 s']] w (Ret w (IsInt (cmpZ (zAt z s t) (zAt z' s' t)))) := by
  by_cases hn : n = n'
  · subst hn
    by_cases hc : a = a' ∧ b = b'
    · obtain ⟨rfl, rfl⟩ := hc
      by_cases hs : s = s'
      · subst hs
        exact cmpG_eq n a b s z z' t w h h' hz hz' h0 h0' h9 h9' ht
      · exact cmpG_s n a b s z s' z' t w h h' hz hz' h0 h0' h9 h9' ht (by simp [hs])
    · exact cmpG_c n a b s z a' b' s' z' t w h h' hz hz' h0 h0' h9 h9' ht (eqW2_no hc)
  · exact cmpG_n n n' a b s z a' b' s' z' t w h h' hz hz' h0 h0' h9 h9' ht (by cases n <;> cases n' <;> simp_all)
set_option maxRecDepth 100000 in
set_option maxHeartbeats 1600000 in
theorem scaled_g (n : Bool) (a b s z t : Int) (w : World) (h : DecIs n a b z) (hz : Gr z s t) (h0 : 0 ≤ s) (hst : s ≤ t) (h9 : t ≤ 9) :
    Calls Tryd.prog 8 #[.agg #[.bool n, .int .u64 a, .int .u64 b, .int .i64 s], .int .i64 t] w (Ret w (IsDecE (zAt z s t) t 0)) := by
  rw [zAt_of s t h]
  have s9 : s ≤ 9 := by omega
  have t0 : 0 ≤ t := by omega
  have HU := Lib.hid (gr_up hz)
  have HH := Lib.hid h
  have HZ := Lib.hid hz
  clear h hz
  have W : HB w [(w.heap.size + 1, 26, #[.bool false, .int .u64 0, .int .u64 0, .int .i64 0]), (w.heap.size, 26, #[.bool n, .int .u64 a, .int .u64 b, .int .i64 s])] ((w.alloc (.cells #[.bool n, .int .u64 a, .int .u64 b, .int .i64 s] 26)).alloc (.cells #[.bool false, .int .u64 0, .int .u64 0, .int .i64 0] 26)) := by
    have h := ((HB.start (Below.refl _ w)).push #[.bool n, .int .u64 a, .int .u64 b, .int .i64 s] 26).push #[.bool false, .int .u64 0, .int .u64 0, .int .i64 0] 26
    simpa using h
  have hlg : w.heap.size ≤ w.heap.size + 1 := by omega
  go_enter Tryd.func8, Tryd.ntmps8
  go_wp2_with fail
  refine (right_d n a b s z _ HH.out (gr_30 HZ.out) h0 s9).mono ?_
  rintro e w1 ⟨_, rfl, rfl, hb⟩
  replace W := W.below hb
  clear hb
  obtain ⟨lq, q0, q1, q2, q3⟩ := HB.dec (t := 26) (g := w.heap.size) (a := .bool n) (b := .int .u64 a) (c := .int .u64 b) (d := .int .i64 s) W (by simp)
  go_wp2_with fail
  refine (sizeAt_g n a b s t z _ HH.out HZ.out h0 hst h9).mono ?_
  rintro e w2 ⟨_, ⟨x, y, ⟨hx, hy, ex⟩, rfl⟩, rfl, hb⟩
  replace W := W.below hb
  clear hb lq q0 q1 q2 q3
  have EX := Lib.hid ex
  clear ex
  obtain ⟨lq, q0, q1, q2, q3⟩ := HB.dec (t := 26) (g := w.heap.size) (a := .bool n) (b := .int .u64 a) (c := .int .u64 b) (d := .int .i64 s) W (by simp)
  replace W := W.push #[.int .u64 x, .int .u64 y] 24
  go_wp2_with fail
  refine (checked_d n x y t _ hx hy (by rw [EX.out]; have := HU.out; omega) t0 h9).mono ?_
  rintro e w3 ⟨_, ⟨n2, a2, b2, D2, rfl⟩, rfl, hb⟩
  rw [EX.out] at D2
  have HD2 := Lib.hid D2
  replace W := W.below hb
  clear hb lq q0 q1 q2 q3 D2
  obtain ⟨ly, y0, y1, y2, y3⟩ := HB.dec (t := 26) (g := w.heap.size + 1) (a := .bool false) (b := .int .u64 0) (c := .int .u64 0) (d := .int .i64 0) W (by simp)
  have Bz := HB.blk (g := w.heap.size + 1) (t := 26) (cs := #[.bool false, .int .u64 0, .int .u64 0, .int .i64 0]) W (by simp)
  have fz0 := Bz.frozen 0
  have fz1 := Bz.frozen 1
  have fz2 := Bz.frozen 2
  have fz3 := Bz.frozen 3
  clear Bz
  have HB1 := Lib.hid W.1
  clear W
  go_wp2
  exact bodyPost_ret (v := .tuple #[.agg #[.bool n2, .int .u64 a2, .int .u64 b2, .int .i64 t], .int .i64 0]) (by simp [results, Tryd.results8, go_sem, y0, y1, y2, y3]) rfl ⟨_, ⟨_, _, _, HD2.out, rfl⟩, rfl, bel4 HB1.out hlg⟩
end Go.Proofs.YtlhceelkefgjhaaDoor

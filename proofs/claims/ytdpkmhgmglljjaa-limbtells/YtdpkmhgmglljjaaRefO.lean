/- Package pyxref1: Left, Right, Bits. -/
import Derived.Test.YtdpkmhgmglljjaaRefN
import Derived.Test.YtdpkmhgmglljjaaShiftA
namespace Go.Proofs.Ytdpkmhgmglljjaa
open Go.RowKit

theorem within_clamp (k : Int) : withinI k 0 256 = ((clampK k : Nat) : Int) ∧ clampK k ≤ 256 := by
  unfold withinI clampK
  constructor <;> split <;> (try split) <;> omega
theorem pow_le_256 {j : Nat} (h : j ≤ 256) : 2 ^ j ≤ 115792089237316195423570985008687907853269984665640564039457584007913129639936 := by
  have : 2 ^ j ≤ 2 ^ 256 := Nat.pow_le_pow_right (by decide) h
  omega
theorem lt80 {N : Nat} (h : N < 115792089237316195423570985008687907853269984665640564039457584007913129639936) : N < 10 ^ 80 := Nat.lt_trans h (by decide)
theorem lt80' {N : Nat} (h : N ≤ 115792089237316195423570985008687907853269984665640564039457584007913129639936) : N < 10 ^ 80 := Nat.lt_of_le_of_lt h (by decide)
theorem mul160 {M N : Nat} (h : M < 10 ^ 80) (g : N < 10 ^ 80) : M * N < 10 ^ 160 := by
  have h1 : M * N ≤ 10 ^ 80 * N := Nat.mul_le_mul_right _ (Nat.le_of_lt h)
  have h2 : 10 ^ 80 * N < 10 ^ 80 * 10 ^ 80 := Nat.mul_lt_mul_of_pos_left g (by decide)
  rw [← Nat.pow_add] at h2
  exact Nat.lt_of_le_of_lt h1 h2
theorem right_of_w4 {a b c d k x y z u : Int} (ha : U64 a) (hb : U64 b) (hc : U64 c) (hd : U64 d) (h : W4R (v4 a b c d / 2 ^ clampK k) x y z u) : RightR a b c d k x y z u := by
  obtain ⟨h0, h1, h2, h3, e⟩ := h
  refine ⟨h0, h1, h2, h3, ?_⟩
  rw [e]
  exact Nat.mod_eq_of_lt (Nat.lt_of_le_of_lt (Nat.div_le_self _ _) (v4_lt ha hb hc hd))

set_option maxHeartbeats 800000 in
theorem refLeft_c (a b c d k : Int) (w : World) (ha : U64 a) (hb : U64 b) (hc : U64 c) (hd : U64 d) :
    Calls Try.prog 33 #[.agg #[.int .u64 a, .int .u64 b, .int .u64 c, .int .u64 d], .int .i64 k] w (Ret w (IsAgg4 (LeftR a b c d k))) := by
  obtain ⟨hcl, hj⟩ := within_clamp k
  have W0 : HB w [(w.heap.size + 1, 27, #[.int .u64 0, .int .u64 0, .int .u64 0, .int .u64 0])] ((w.alloc (.cells #[.int .u64 a, .int .u64 b, .int .u64 c, .int .u64 d] 27)).alloc (.cells #[.int .u64 0, .int .u64 0, .int .u64 0, .int .u64 0] 27)) := by
    have h := (HB.start ((Below.refl w.heap.size w).alloc (Nat.le_refl _) (.cells #[.int .u64 a, .int .u64 b, .int .u64 c, .int .u64 d] 27))).push #[.int .u64 0, .int .u64 0, .int .u64 0, .int .u64 0] 27
    simpa using h
  have W := Lib.hid W0
  have HCL := Lib.hid hcl
  clear W0 hcl
  go_enter Try.func33, Try.ntmps33
  go_wp2_with fail
  refine (nat4_c a b c d _ ha hb hc hd).mono ?_
  rintro e w1 ⟨A1, n1, k1, d1, ⟨D1, N1, E1⟩, rfl, hb1⟩
  have b1 : dv d1 < 10 ^ 80 := by rw [E1]; exact lt80 (v4_lt ha hb hc hd)
  have l1 : n1 ≤ 80 := lenA D1 N1 b1
  have B1h := Lib.hid b1
  have W1 := Lib.hid (W.out.below hb1)
  have E1h := Lib.hid E1
  clear W hb1 E1 b1
  go_wp2_with fail
  refine (within_c k 0 256 _).mono ?_
  rintro e w2 ⟨rfl, rfl⟩
  rw [HCL.out]
  go_wp2_with fail
  refine (two_c (clampK k) hj _).mono ?_
  rintro e w2 ⟨A2, n2, k2, d2, ⟨D2, N2, E2⟩, rfl, hb2⟩
  have b2 : dv d2 < 10 ^ 80 := by rw [E2]; exact lt80' (pow_le_256 hj)
  have l2 : n2 ≤ 80 := lenA D2 N2 b2
  have B2h := Lib.hid b2
  replace D1 := D1.below hb2
  have W2 := Lib.hid (W1.out.below hb2)
  have E2h := Lib.hid E2
  clear W1 hb2 E2 b2
  go_wp2_with fail
  refine (mulNat_c A1 A2 n1 n2 k1 k2 d1 d2 _ D1 D2 (by omega) (by omega)).mono ?_
  rintro e w3 ⟨A3, n3, k3, d3, ⟨D3, N3, E3⟩, rfl, hb3⟩
  have l3 : n3 ≤ 160 := lenA D3 N3 (by rw [E3]; exact mul160 B1h.out B2h.out)
  have W3 := Lib.hid (W2.out.below hb3)
  have E3h := Lib.hid E3
  clear W2 hb3 E3 D1 D2
  go_wp2_with fail
  refine (words4_c A3 n3 k3 d3 _ D3 (by omega)).mono ?_
  rintro e w4 ⟨_, ⟨x, y, z, u, HR, rfl⟩, rfl, hb4⟩
  rw [E3h.out, E1h.out, E2h.out] at HR
  have H : LeftR a b c d k x y z u := HR
  have HH := Lib.hid H
  have W4 := Lib.hid (W3.out.below hb4)
  have B0 := W4.out.blk (g := w.heap.size + 1) (t := 27) (cs := #[.int .u64 0, .int .u64 0, .int .u64 0, .int .u64 0]) (by simp)
  have d0 := B0.cell 0
  have d1 := B0.cell 1
  have d2 := B0.cell 2
  have d3 := B0.cell 3
  have f0 := B0.frozen 0
  have f1 := B0.frozen 1
  have f2 := B0.frozen 2
  have f3 := B0.frozen 3
  simp at d0 d1 d2 d3
  have hg := B0.lt
  have hle : w.heap.size ≤ w.heap.size + 1 := by omega
  clear HR H hb4 W3 D3
  go_wp2
  refine bodyPost_ret (v := .agg #[.int .u64 x, .int .u64 y, .int .u64 z, .int .u64 u]) (by simp [results, Try.results33, go_sem, d0, d1, d2, d3]) rfl ⟨_, ⟨_, _, _, _, HH.out, rfl⟩, rfl, ?_⟩
  exact (((W4.out.1.setCell (p := ⟨w.heap.size + 1, 0, none⟩) hle _).setCell (p := ⟨w.heap.size + 1, 1, none⟩) hle _).setCell (p := ⟨w.heap.size + 1, 2, none⟩) hle _).setCell (p := ⟨w.heap.size + 1, 3, none⟩) hle _

set_option maxHeartbeats 800000 in
theorem refRight_c (a b c d k : Int) (w : World) (ha : U64 a) (hb : U64 b) (hc : U64 c) (hd : U64 d) :
    Calls Try.prog 34 #[.agg #[.int .u64 a, .int .u64 b, .int .u64 c, .int .u64 d], .int .i64 k] w (Ret w (IsAgg4 (RightR a b c d k))) := by
  obtain ⟨hcl, hj⟩ := within_clamp k
  have W0 : HB w [(w.heap.size + 1, 27, #[.int .u64 0, .int .u64 0, .int .u64 0, .int .u64 0])] ((w.alloc (.cells #[.int .u64 a, .int .u64 b, .int .u64 c, .int .u64 d] 27)).alloc (.cells #[.int .u64 0, .int .u64 0, .int .u64 0, .int .u64 0] 27)) := by
    have h := (HB.start ((Below.refl w.heap.size w).alloc (Nat.le_refl _) (.cells #[.int .u64 a, .int .u64 b, .int .u64 c, .int .u64 d] 27))).push #[.int .u64 0, .int .u64 0, .int .u64 0, .int .u64 0] 27
    simpa using h
  have W := Lib.hid W0
  have HCL := Lib.hid hcl
  clear W0 hcl
  go_enter Try.func34, Try.ntmps34
  go_wp2_with fail
  refine (nat4_c a b c d _ ha hb hc hd).mono ?_
  rintro e w1 ⟨A1, n1, k1, d1, ⟨D1, N1, E1⟩, rfl, hb1⟩
  have b1 : dv d1 < 10 ^ 80 := by rw [E1]; exact lt80 (v4_lt ha hb hc hd)
  have l1 : n1 ≤ 80 := lenA D1 N1 b1
  have B1h := Lib.hid b1
  have W1 := Lib.hid (W.out.below hb1)
  have E1h := Lib.hid E1
  clear W hb1 E1 b1
  go_wp2_with fail
  refine (within_c k 0 256 _).mono ?_
  rintro e w2 ⟨rfl, rfl⟩
  rw [HCL.out]
  go_wp2_with fail
  refine (two_c (clampK k) hj _).mono ?_
  rintro e w2 ⟨A2, n2, k2, d2, ⟨D2, N2, E2⟩, rfl, hb2⟩
  have b2 : dv d2 < 10 ^ 80 := by rw [E2]; exact lt80' (pow_le_256 hj)
  have l2 : n2 ≤ 80 := lenA D2 N2 b2
  have p2 : 0 < dv d2 := by rw [E2]; exact Nat.pow_pos (by decide)
  have P2h := Lib.hid p2
  replace D1 := D1.below hb2
  have W2 := Lib.hid (W1.out.below hb2)
  have E2h := Lib.hid E2
  clear W1 hb2 E2 b2 p2
  go_wp2_with fail
  refine (divNat_c A1 A2 n1 n2 k1 k2 d1 d2 _ D1 D2 N2 (by omega) (by omega) P2h.out).mono ?_
  rintro e w3 ⟨A3, n3, k3, d3, A4, n4, k4, d4, ⟨D3, N3, E3, -⟩, ⟨-, -, -, -⟩, rfl, hb3⟩
  have l3 : n3 ≤ 80 := lenA D3 N3 (Nat.lt_of_le_of_lt (by rw [E3]; exact Nat.div_le_self _ _) B1h.out)
  have W3 := Lib.hid (W2.out.below hb3)
  have E3h := Lib.hid E3
  clear W2 hb3 E3 D1 D2
  go_wp2_with fail
  refine (words4_c A3 n3 k3 d3 _ D3 (by omega)).mono ?_
  rintro e w4 ⟨_, ⟨x, y, z, u, HR, rfl⟩, rfl, hb4⟩
  rw [E3h.out, E1h.out, E2h.out] at HR
  have HH := Lib.hid (right_of_w4 ha hb hc hd HR)
  have W4 := Lib.hid (W3.out.below hb4)
  have B0 := W4.out.blk (g := w.heap.size + 1) (t := 27) (cs := #[.int .u64 0, .int .u64 0, .int .u64 0, .int .u64 0]) (by simp)
  have d0 := B0.cell 0
  have d1 := B0.cell 1
  have d2 := B0.cell 2
  have d3 := B0.cell 3
  have f0 := B0.frozen 0
  have f1 := B0.frozen 1
  have f2 := B0.frozen 2
  have f3 := B0.frozen 3
  simp at d0 d1 d2 d3
  have hg := B0.lt
  have hle : w.heap.size ≤ w.heap.size + 1 := by omega
  clear HR hb4 W3 D3
  go_wp2
  refine bodyPost_ret (v := .agg #[.int .u64 x, .int .u64 y, .int .u64 z, .int .u64 u]) (by simp [results, Try.results34, go_sem, d0, d1, d2, d3]) rfl ⟨_, ⟨_, _, _, _, HH.out, rfl⟩, rfl, ?_⟩
  exact (((W4.out.1.setCell (p := ⟨w.heap.size + 1, 0, none⟩) hle _).setCell (p := ⟨w.heap.size + 1, 1, none⟩) hle _).setCell (p := ⟨w.heap.size + 1, 2, none⟩) hle _).setCell (p := ⟨w.heap.size + 1, 3, none⟩) hle _

theorem bits_stop {N j : Nat} (h : N < 2 ^ j) (hj : j = 0 ∨ 2 ^ (j - 1) ≤ N) : BitsN N j := ⟨h, fun hp => by rcases hj with e | e; omega; exact e⟩
theorem pow_bound {N j : Nat} (h : 2 ^ j ≤ N) (hN : N < 2 ^ 256) : j < 256 := by
  rcases Nat.lt_or_ge j 256 with c | c
  · exact c
  · have : 2 ^ 256 ≤ 2 ^ j := Nat.pow_le_pow_right (by decide) c
    omega
theorem v4_pow {a b c d : Int} (ha : U64 a) (hb : U64 b) (hc : U64 c) (hd : U64 d) : v4 a b c d < 2 ^ 256 := Nat.lt_of_lt_of_le (v4_lt ha hb hc hd) (by decide)

set_option maxHeartbeats 800000 in
theorem refBits_c (a b c d : Int) (w : World) (ha : U64 a) (hb : U64 b) (hc : U64 c) (hd : U64 d) :
    Calls Try.prog 35 #[.agg #[.int .u64 a, .int .u64 b, .int .u64 c, .int .u64 d]] w (Ret w (IsBits (v4 a b c d))) := by
  have hv := v4_pow ha hb hc hd
  obtain ⟨N, hN⟩ : ∃ N, v4 a b c d = N := ⟨_, rfl⟩
  rw [hN] at hv
  have C0 := nat4_c a b c d (w.alloc (.cells #[.int .u64 a, .int .u64 b, .int .u64 c, .int .u64 d] 27)) ha hb hc hd
  rw [hN] at C0 ⊢
  have HV := Lib.hid hv
  have HC0 := Lib.hid C0
  clear C0 hv hN
  go_enter Try.func35, Try.ntmps35
  go_wp2_with fail
  refine HC0.out.mono ?_
  rintro e w1 ⟨A1, n1, k1, d1, ⟨D1, N1, E1⟩, rfl, hb1⟩
  have HB1 : Below w.heap.size w w1 := ((Below.refl _ _).alloc (Nat.le_refl _) _).trans (hb1.mono (by simp))
  have E1h := Lib.hid E1
  have hL := Lib.hid (dig_lit w1 1 (by omega))
  have D1h := Lib.hid (D1.alloc (.cells #[.int .i64 ((1 : Nat) : Int)] 3))
  have HBh := Lib.hid (HB1.alloc HB1.size (.cells #[.int .i64 ((1 : Nat) : Int)] 3))
  clear E1 HC0 hb1 D1 HB1
  go_wp2
  go_loopw [4, 5] (fun v s wr => ∃ (j : Nat) (R : Option Addr) (n k : Nat) (ds : List Nat), j ≤ 256 ∧ s = .int .i64 j ∧ v = .slice R n k ∧ DigC wr R n k ds ∧ Norm ds ∧ dv ds = 2 ^ j ∧ (j = 0 ∨ 2 ^ (j - 1) ≤ N) ∧ DigC wr A1 n1 k1 d1 ∧ Below w.heap.size w wr) (fun _ s _ => 257 - (intOf s).toNat)
  case atStart => exact ⟨0, _, 1, 1, [1], by omega, rfl, rfl, hL.out, Or.inr (by decide), rfl, Or.inl rfl, D1h.out, HBh.out⟩
  case round =>
    clear hL D1h HBh
    obtain ⟨j, R, n, k, ds, hj, rfl, rfl, HD, HN, HE, hjN, D1, HB⟩ := hrel
    have ln : n ≤ 80 := lenA HD HN (by rw [HE]; exact lt80' (pow_le_256 hj))
    have C := cmpNat_c R A1 n n1 k k1 ds d1 wr HD D1 HN N1
    rw [HE, E1h.out] at C
    have HEh := Lib.hid HE
    have HJN := Lib.hid hjN
    clear HE hjN
    by_cases hle : 2 ^ j ≤ N
    · have hj2 : j < 256 := pow_bound hle HV.out
      obtain ⟨z, hz, hz0⟩ : ∃ z, cmpI (2 ^ j) N = z ∧ z ≤ 0 := by
        rcases Nat.eq_or_lt_of_le hle with e | e
        · exact ⟨0, cmpI_eq e, by omega⟩
        · exact ⟨-1, cmpI_lt e, by omega⟩
      rw [hz] at C
      have HC := Lib.hid C
      have HLE := Lib.hid hle
      clear C hz hle
      go_wp2_with fail
      refine HC.out.mono ?_
      rintro e w2 ⟨v, hv, rfl, hb2⟩
      obtain rfl : v = .int .i64 z := hv
      replace HD := HD.below hb2
      replace D1 := D1.below hb2
      have HB2 : Below w.heap.size w w2 := HB.trans (hb2.mono HB.size)
      clear HC hb2 HB
      go_wp2_with fail
      refine (addNat_c R R n n k k ds ds _ HD HD (by omega) (by omega)).mono ?_
      rintro e w3 ⟨A2, n2, k2, d2, ⟨D2, N2, E2⟩, rfl, hb3⟩
      have E2h := Lib.hid E2
      replace D1 := D1.below hb3
      have HB3 : Below w.heap.size w w3 := HB2.trans (hb3.mono HB2.size)
      clear E2 hb3 HD HB2
      go_wp2
      go_roundw
      case rel => exact ⟨j + 1, _, _, _, _, by omega, by go_num, rfl, D2, N2, by rw [E2h.out, HEh.out, Nat.pow_succ]; omega, Or.inr (by simpa using HLE.out), D1, HB3⟩
      case measure => simp [intOf]; omega
    · have hz := cmpI_gt (show N < 2 ^ j by omega)
      have HS := Lib.hid (bits_stop (show N < 2 ^ j by omega) HJN.out)
      rw [hz] at C
      have HC := Lib.hid C
      clear C hz hle
      go_wp2_with fail
      refine HC.out.mono ?_
      rintro e w2 ⟨v, hv, rfl, hb2⟩
      obtain rfl : v = .int .i64 1 := hv
      have HB2 : Below w.heap.size w w2 := HB.trans (hb2.mono HB.size)
      clear HC hb2 HB HD D1
      go_wp2
      go_ret
      exact ⟨_, ⟨j, hj, HS.out, rfl⟩, rfl, HB2⟩
end Go.Proofs.Ytdpkmhgmglljjaa

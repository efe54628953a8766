/- Shifts and bits: facts of their values; contracts where the answer is known. -/
import Derived.Test.YtdpkmhgmglljjaaKnownA
import Derived.Test.YtdpkmhgmglljjaaDet
namespace Go.Proofs.Ytdpkmhgmglljjaa
open Go.RowKit

theorem bits_u (a b c d : Int) (n : Nat) (w : World) (ha : U64 a) (hb : U64 b) (hc : U64 c) (hd : U64 d) (h : BitsN (v4 a b c d) n) :
    Calls Try.prog 18 #[.agg #[.int .u64 a, .int .u64 b, .int .u64 c, .int .u64 d]] w (Ret w (IsInt n)) :=
  (bits_c a b c d w ha hb hc hd).mono fun _ _ ⟨_, ⟨m, _, hm, hv⟩, he, hw⟩ => ⟨_, by rw [hv, bitsN_unique hm h]; rfl, he, hw⟩
theorem left_u (a b c d k l0 l1 l2 l3 : Int) (w : World) (ha : U64 a) (hb : U64 b) (hc : U64 c) (hd : U64 d) (h : LeftR a b c d k l0 l1 l2 l3) :
    Calls Try.prog 16 #[.agg #[.int .u64 a, .int .u64 b, .int .u64 c, .int .u64 d], .int .i64 k] w (Ret w (· = .agg #[.int .u64 l0, .int .u64 l1, .int .u64 l2, .int .u64 l3])) :=
  (left_c a b c d k w ha hb hc hd).mono fun _ _ ⟨_, ⟨x, y, z, u, hm, hv⟩, he, hw⟩ => by
    obtain ⟨h0, h1, h2, h3, e⟩ := h
    obtain ⟨g0, g1, g2, g3, f⟩ := hm
    obtain ⟨rfl, rfl, rfl, rfl⟩ := v4_inj h0 h1 h2 h3 g0 g1 g2 g3 (e.trans f.symm)
    exact ⟨_, hv, he, hw⟩
theorem bitsN_log (m : Nat) (hm : m ≠ 0) : BitsN m (Nat.log2 m + 1) := by
  refine ⟨Nat.lt_log2_self, fun _ => ?_⟩
  have := Nat.log2_self_le hm
  simpa using this
theorem bitsN_ex (m : Nat) (h : m < 340282366920938463463374607431768211456) : ∃ n, n ≤ 128 ∧ BitsN m n ∧ (m = 0 ↔ n = 0) := by
  rcases Nat.eq_zero_or_pos m with rfl | hp
  · exact ⟨0, by omega, by simp [BitsN], by simp⟩
  · have hb := bitsN_log m (by omega)
    refine ⟨_, ?_, hb, by constructor <;> intro <;> omega⟩
    have h1 := Nat.log2_self_le (show m ≠ 0 by omega)
    rcases Nat.lt_or_ge (Nat.log2 m) 128 with c | c
    · omega
    · have : 2 ^ 128 ≤ 2 ^ Nat.log2 m := Nat.pow_le_pow_right (by decide) c
      omega
theorem v4_two (x0 x1 : Int) (h0 : U64 x0) (h1 : U64 x1) : v4 x0 x1 0 0 = v2 x0 x1 := by
  obtain ⟨a, rfl⟩ := Int.eq_ofNat_of_zero_le h0.1
  obtain ⟨b, rfl⟩ := Int.eq_ofNat_of_zero_le h1.1
  rw [v4_n2]
  simp [v2]
theorem clamp_nat {k : Int} (h0 : 0 ≤ k) (h1 : k ≤ 256) : clampK k = k.toNat := by
  unfold clampK
  rw [if_neg (by omega), if_neg (by omega)]
theorem pow128 {k : Nat} (h : k ≤ 128) : 2 ^ k ≤ 340282366920938463463374607431768211456 := by
  have : 2 ^ k ≤ 2 ^ 128 := Nat.pow_le_pow_right (by decide) h
  exact this
theorem left_val {x0 x1 k l0 l1 l2 l3 : Int} (h0 : U64 x0) (h1 : U64 x1) (hk0 : 0 ≤ k) (hk : k ≤ 128) (h : LeftR x0 x1 0 0 k l0 l1 l2 l3) : v4 l0 l1 l2 l3 = v2 x0 x1 * 2 ^ k.toNat := by
  obtain ⟨_, _, _, _, e⟩ := h
  rw [v4_two x0 x1 h0 h1, clamp_nat hk0 (by omega)] at e
  rw [e]
  refine Nat.mod_eq_of_lt ?_
  have b := v2_lt h0 h1
  have c := pow128 (show k.toNat ≤ 128 by omega)
  calc v2 x0 x1 * 2 ^ k.toNat < 340282366920938463463374607431768211456 * 2 ^ k.toNat := Nat.mul_lt_mul_of_pos_right b (Nat.pow_pos (by decide))
    _ ≤ 340282366920938463463374607431768211456 * 340282366920938463463374607431768211456 := Nat.mul_le_mul_left _ c
/-- To the left and back. -/
theorem sh_back {x0 x1 k l0 l1 l2 l3 c0 c1 c2 c3 : Int} (h0 : U64 x0) (h1 : U64 x1) (hk0 : 0 ≤ k) (hk : k ≤ 128) (h : LeftR x0 x1 0 0 k l0 l1 l2 l3) (g : RightR l0 l1 l2 l3 k c0 c1 c2 c3) : eqW4 c0 c1 c2 c3 x0 x1 0 0 = true := by
  have e := left_val h0 h1 hk0 hk h
  obtain ⟨g0, g1, g2, g3, f⟩ := g
  refine eqW4_yes (v4_inj g0 g1 g2 g3 h0 h1 u64_0 u64_0 ?_)
  rw [f, e, clamp_nat hk0 (by omega), Nat.mul_div_cancel _ (Nat.pow_pos (by decide)), v4_two x0 x1 h0 h1]
theorem sh_bits {x0 x1 k l0 l1 l2 l3 : Int} {n : Nat} (h0 : U64 x0) (h1 : U64 x1) (hk0 : 0 ≤ k) (hk : k ≤ 128) (h : LeftR x0 x1 0 0 k l0 l1 l2 l3) (hx : 0 < v2 x0 x1) (hn : BitsN (v2 x0 x1) n) : BitsN (v4 l0 l1 l2 l3) (k.toNat + n) := by
  rw [left_val h0 h1 hk0 hk h]
  have := (bits_shift (lo := 0) (s := k.toNat) (Nat.pow_pos (by decide)) hx hn).1
  rwa [Nat.zero_add] at this
theorem sh_two {x0 x1 t0 t1 t2 t3 c0 c1 c2 c3 : Int} (h0 : U64 x0) (h1 : U64 x1) (h : MulR x0 x1 2 0 t0 t1 t2 t3) (g : LeftR x0 x1 0 0 1 c0 c1 c2 c3) : eqW4 c0 c1 c2 c3 t0 t1 t2 t3 = true := by
  have e := left_val h0 h1 (by omega) (by omega) g
  obtain ⟨a, b, c, d, f⟩ := h
  obtain ⟨g0, g1, g2, g3, _⟩ := g
  refine eqW4_yes (v4_inj g0 g1 g2 g3 a b c d ?_)
  have e2 : v2 2 0 = 2 := by simp [v2]
  rw [e, f, e2]
  rfl
theorem sh_three {x0 x1 k l0 l1 l2 l3 c0 c1 c2 c3 d0 d1 d2 d3 : Int} (hk0 : 0 ≤ k) (hk : k ≤ 128) (h : LeftR x0 x1 0 0 k l0 l1 l2 l3) (g : LeftR l0 l1 l2 l3 3 c0 c1 c2 c3) (f : LeftR x0 x1 0 0 (k + 3) d0 d1 d2 d3) : eqW4 c0 c1 c2 c3 d0 d1 d2 d3 = true := by
  obtain ⟨_, _, _, _, e1⟩ := h
  obtain ⟨g0, g1, g2, g3, e2⟩ := g
  obtain ⟨f0, f1, f2, f3, e3⟩ := f
  refine eqW4_yes (v4_inj g0 g1 g2 g3 f0 f1 f2 f3 ?_)
  have ek : clampK (k + 3) = clampK k + clampK 3 := by
    rw [clamp_nat hk0 (by omega), clamp_nat (k := 3) (by omega) (by omega), clamp_nat (by omega) (by omega)]
    omega
  rw [e2, e1, e3, ek, Nat.pow_add, Nat.mod_mul_mod, Nat.mul_assoc]
theorem sh_zero {x0 x1 c0 c1 c2 c3 : Int} {n : Nat} (h0 : U64 x0) (h1 : U64 x1) (hn : BitsN (v2 x0 x1) n) (hn2 : n ≤ 128) (g : RightR x0 x1 0 0 (n : Int) c0 c1 c2 c3) : eqW4 c0 c1 c2 c3 0 0 0 0 = true := by
  obtain ⟨g0, g1, g2, g3, f⟩ := g
  refine eqW4_yes (v4_inj g0 g1 g2 g3 u64_0 u64_0 u64_0 u64_0 ?_)
  rw [f, v4_n0, v4_two x0 x1 h0 h1, clamp_nat (by omega) (by omega), Int.toNat_natCast]
  exact Nat.div_eq_of_lt hn.1
theorem sh_one {x0 x1 c0 c1 c2 c3 : Int} {n : Nat} (h0 : U64 x0) (h1 : U64 x1) (hn : BitsN (v2 x0 x1) n) (hp : 0 < n) (hn2 : n ≤ 128) (g : RightR x0 x1 0 0 ((n : Int) - 1) c0 c1 c2 c3) : eqW4 c0 c1 c2 c3 1 0 0 0 = true := by
  obtain ⟨g0, g1, g2, g3, f⟩ := g
  refine eqW4_yes (v4_inj g0 g1 g2 g3 u64_1 u64_0 u64_0 u64_0 ?_)
  have e1 : v4 1 0 0 0 = 1 := by simp [v4, v2]
  have et : ((n : Int) - 1).toNat = n - 1 := by omega
  rw [f, e1, v4_two x0 x1 h0 h1, clamp_nat (by omega) (by omega), et]
  have a := hn.1
  have b := hn.2 hp
  have e : 2 ^ n = 2 * 2 ^ (n - 1) := by
    have : n = (n - 1) + 1 := by omega
    rw [this, Nat.pow_succ, Nat.mul_comm]
    simp
  refine Nat.div_eq_of_lt_le (by omega) (by omega)
theorem words_ex (v : Nat) (h : v < 115792089237316195423570985008687907853269984665640564039457584007913129639936) : ∃ x y z u : Int, U64 x ∧ U64 y ∧ U64 z ∧ U64 u ∧ v4 x y z u = v := by
  refine ⟨((v % 18446744073709551616 : Nat) : Int), ((v / 18446744073709551616 % 18446744073709551616 : Nat) : Int), ((v / 340282366920938463463374607431768211456 % 18446744073709551616 : Nat) : Int), ((v / 6277101735386680763835789423207666416102355444464034512896 : Nat) : Int), u64_nat (by omega), u64_nat (by omega), u64_nat (by omega), u64_nat (by omega), ?_⟩
  rw [v4_nat]
  omega
theorem left_ex (a b c d k : Int) : ∃ x y z u : Int, LeftR a b c d k x y z u := by
  obtain ⟨x, y, z, u, h0, h1, h2, h3, e⟩ := words_ex (v4 a b c d * 2 ^ clampK k % 115792089237316195423570985008687907853269984665640564039457584007913129639936) (Nat.mod_lt _ (by decide))
  exact ⟨x, y, z, u, h0, h1, h2, h3, e⟩
theorem left_three {x0 x1 k l0 l1 l2 l3 c0 c1 c2 c3 : Int} (hk0 : 0 ≤ k) (hk : k ≤ 128) (h : LeftR x0 x1 0 0 k l0 l1 l2 l3) (g : LeftR l0 l1 l2 l3 3 c0 c1 c2 c3) : LeftR x0 x1 0 0 (k + 3) c0 c1 c2 c3 := by
  obtain ⟨_, _, _, _, e1⟩ := h
  obtain ⟨g0, g1, g2, g3, e2⟩ := g
  refine ⟨g0, g1, g2, g3, ?_⟩
  have ek : clampK (k + 3) = clampK k + clampK 3 := by
    rw [clamp_nat hk0 (by omega), clamp_nat (k := 3) (by omega) (by omega), clamp_nat (by omega) (by omega)]
    omega
  rw [e2, e1, ek, Nat.pow_add, Nat.mod_mul_mod, Nat.mul_assoc]
theorem left_one {x0 x1 t0 t1 t2 t3 : Int} (h0 : U64 x0) (h1 : U64 x1) (h : MulR x0 x1 2 0 t0 t1 t2 t3) : LeftR x0 x1 0 0 1 t0 t1 t2 t3 := by
  obtain ⟨x, y, z, u, g⟩ := left_ex x0 x1 0 0 1
  obtain ⟨rfl, rfl, rfl, rfl⟩ := eqW4_iff.1 (sh_two h0 h1 h g)
  exact g
theorem right_zero {x0 x1 : Int} {n : Nat} (h0 : U64 x0) (h1 : U64 x1) (hn : BitsN (v2 x0 x1) n) (hn2 : n ≤ 128) : RightR x0 x1 0 0 (n : Int) 0 0 0 0 := by
  refine ⟨u64_0, u64_0, u64_0, u64_0, ?_⟩
  rw [v4_n0, v4_two x0 x1 h0 h1, clamp_nat (by omega) (by omega), Int.toNat_natCast]
  exact (Nat.div_eq_of_lt hn.1).symm
theorem right_one {x0 x1 : Int} {n : Nat} (h0 : U64 x0) (h1 : U64 x1) (hn : BitsN (v2 x0 x1) n) (hp : 0 < n) (hn2 : n ≤ 128) : RightR x0 x1 0 0 ((n : Int) - 1) 1 0 0 0 := by
  refine ⟨u64_1, u64_0, u64_0, u64_0, ?_⟩
  have e1 : v4 1 0 0 0 = 1 := by simp [v4, v2]
  have et : ((n : Int) - 1).toNat = n - 1 := by omega
  rw [e1, v4_two x0 x1 h0 h1, clamp_nat (by omega) (by omega), et]
  have a := hn.1
  have b := hn.2 hp
  have e : 2 ^ n = 2 * 2 ^ (n - 1) := by
    have : n = (n - 1) + 1 := by omega
    rw [this, Nat.pow_succ, Nat.mul_comm]
    simp
  exact (Nat.div_eq_of_lt_le (by omega) (by omega)).symm
theorem sh_unit {o0 o1 o2 o3 : Int} {n : Nat} (hn2 : n ≤ 128) (h : LeftR 1 0 0 0 (n : Int) o0 o1 o2 o3) : BitsN (v4 o0 o1 o2 o3) (n + 1) := by
  have e := left_val u64_1 u64_0 (by omega) (by omega) h
  have e1 : v2 1 0 = 1 := by simp [v2]
  rw [e, e1, Nat.one_mul, Int.toNat_natCast]
  refine ⟨?_, fun _ => by simp⟩
  rw [Nat.pow_succ]
  have := Nat.pow_pos (n := n) (show 0 < 2 by decide)
  omega
end Go.Proofs.Ytdpkmhgmglljjaa

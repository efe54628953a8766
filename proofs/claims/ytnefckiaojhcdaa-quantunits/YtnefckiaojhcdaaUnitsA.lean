/- QuantUnits: what it comes to. -/
import Derived.Test.YtnefckiaojhcdaaQuantH
import Derived.Test.YtnefckiaojhcdaaQuantI
namespace Go.Proofs.Ytnefckiaojhcdaa
open Go.RowKit
theorem near_of {n : Bool} {x : Int} (hn : n = decide (x < 0)) (P : Nat) (hP : 0 < P) (m y δ : Int) (hy : zOf n (roundN n x.natAbs P m) = y) (hδ : y * (P : Int) - x = δ) :
    δ.natAbs < P ∧ (3 ≤ m → m ≤ 4 → 2 * δ.natAbs ≤ P) := by
  obtain ⟨a, b, h⟩ : ∃ a b, DecIs n a b (if x < 0 then -1 else 0) := by
    by_cases h : x < 0
    · refine ⟨1, 0, ?_⟩
      rw [hn, if_pos h]
      exact ⟨by simp [h], u64_1, u64_0, by rw [v2_low]; rfl⟩
    · refine ⟨0, 0, ?_⟩
      rw [hn, if_neg h]
      exact ⟨by simp [h], u64_0, u64_0, by rw [v2_low]; rfl⟩
  obtain ⟨R, hR, hRA, hc⟩ := rd_near n x.natAbs P m hP
  rw [← hy, zOf_mul] at hδ
  generalize roundN n x.natAbs P m * P = M at *
  unfold zOf at hδ
  clear h a b
  cases n
  · have hx0 : ¬ x < 0 := by simpa using hn.symm
    simp at hδ
    rcases hc with ⟨e, hc⟩ | ⟨e, h0, hc⟩
    · refine ⟨by omega, fun h3 h4 => ?_⟩
      rcases hc with hc | hc
      · omega
      · rcases (show m = 3 ∨ m = 4 by omega) with e | e
        · have := hc.2.2.1 e; omega
        · have := hc.2.2.2 e; omega
    · refine ⟨by omega, fun h3 h4 => ?_⟩
      rcases (show m = 3 ∨ m = 4 by omega) with e' | e'
      · have := hc.2.2.1 e'; omega
      · have := hc.2.2.2 e'; omega
  · have hx0 : x < 0 := by simpa using hn.symm
    simp at hδ
    rcases hc with ⟨e, hc⟩ | ⟨e, h0, hc⟩
    · refine ⟨by omega, fun h3 h4 => ?_⟩
      rcases hc with hc | hc
      · omega
      · rcases (show m = 3 ∨ m = 4 by omega) with e | e
        · have := hc.2.2.1 e; omega
        · have := hc.2.2.2 e; omega
    · refine ⟨by omega, fun h3 h4 => ?_⟩
      rcases (show m = 3 ∨ m = 4 by omega) with e' | e'
      · have := hc.2.2.1 e'; omega
      · have := hc.2.2.2 e'; omega
theorem zAt_neg_iff {x s r : Int} : zAt x s r < 0 ↔ x < 0 := by
  unfold zAt
  have := pow10N_pos (r - s).toNat
  constructor
  · intro h
    rcases Int.lt_or_le x 0 with h' | h'
    · exact h'
    · have := Int.mul_nonneg h' (show (0 : Int) ≤ ((10 ^ (r - s).toNat : Nat) : Int) by omega); omega
  · intro h
    exact Int.mul_neg_of_neg_of_pos h (by omega)
theorem zAt_abs (x s r : Int) : (zAt x s r).natAbs = x.natAbs * 10 ^ (r - s).toNat := by unfold zAt; rw [Int.natAbs_mul, Int.natAbs_natCast]
theorem zAt_mulL (k z s r : Int) : zAt (k * z) s r = k * zAt z s r := by unfold zAt; rw [Int.mul_assoc]
/-- A quotient to no place, at a Scale that both have. -/
theorem divN_at (n : Bool) {x s y t r m : Int} (hr : (s < t ∧ t = r) ∨ (t ≤ s ∧ s = r)) : divN n x s y t 0 m = roundN n (zAt x s r).natAbs (zAt y t r).natAbs m := by
  unfold divN
  rw [zAt_abs, zAt_abs]
  rcases hr with ⟨h, rfl⟩ | ⟨h, rfl⟩
  · rw [show 0 + t - s = t - s by omega, show (s - t - 0).toNat = (t - t).toNat by omega]
  · rw [show (0 + t - s).toNat = (s - s).toNat by omega, show s - t - 0 = s - t by omega]
theorem round_exact (n : Bool) (N P : Nat) (m : Int) (hP : 0 < P) : roundN n (N * P) P m = N := by
  unfold roundN
  rw [Nat.mul_mod_left, Nat.mul_div_cancel _ hP]
  simp
theorem divN_back (n : Bool) {k y t m : Int} (hy : 0 < y) : divN n (k * y) t y t 0 m = k.natAbs := by
  unfold divN
  rw [show (0 + t - t).toNat = 0 by omega, show (t - t - 0).toNat = 0 by omega, Nat.pow_zero, Nat.mul_one, Nat.mul_one, Int.natAbs_mul]
  exact round_exact n _ _ m (by omega)
theorem units_near {n : Bool} {x s y t r m β δ : Int} {N : Nat} (hn : n = decide (x < 0)) (hy : 0 < y) (hr : (s < t ∧ t = r) ∨ (t ≤ s ∧ s = r)) (hm3 : 3 ≤ m) (hm4 : m ≤ 4) (hN : divN n x s y t 0 m = N) (hβ : zOf n N * y = β) (hδ : zAt β t r - zAt x s r = δ) :
    δ.natAbs + δ.natAbs ≤ (zAt y t r).natAbs ∧ δ.natAbs < (zAt y t r).natAbs ∧ 0 ≤ zAt y t r := by
  have hU : 0 < zAt y t r := by unfold zAt; exact Int.mul_pos hy (by have := pow10N_pos (r - t).toNat; omega)
  rw [divN_at n hr] at hN
  have hUU : ((zAt y t r).natAbs : Int) = zAt y t r := by omega
  have h := near_of (n := n) (x := zAt x s r) (by rw [hn]; exact decide_eq_decide.2 zAt_neg_iff.symm) (zAt y t r).natAbs (by omega) m (zOf n N) δ (by rw [hN]) (by rw [hUU, ← zAt_mulL, hβ]; exact hδ)
  have := h.2 hm3 hm4
  exact ⟨by omega, h.1, by omega⟩
/-- What is left of a quotient that is cut. -/
theorem units_left {n : Bool} {x s z mo lam : Int} {M : Nat} (hn : n = decide (x < 0)) (hz : 0 < z) (h0 : 0 ≤ s) (h3 : s ≤ 3) (hM : divN n x s z 1 3 0 = M) (hl : zAt x s 4 - zOf n M * z = lam) (hmo : z = mo) : (lam.natAbs : Int) < mo := by
  subst hmo
  have e : divN n x s z 1 3 0 = roundN n (zAt x s 4).natAbs z.natAbs 0 := by
    unfold divN
    rw [zAt_abs, show 3 + 1 - s = 4 - s by omega, show (s - 1 - 3).toNat = 0 by omega, Nat.pow_zero, Nat.mul_one]
  rw [e] at hM
  have hzz : ((z.natAbs : Nat) : Int) = z := by omega
  have h := near_of (n := n) (x := zAt x s 4) (by rw [hn]; exact decide_eq_decide.2 zAt_neg_iff.symm) z.natAbs (by omega) 0 (zOf n M) (-lam) (by rw [hM]) (by rw [hzz]; omega)
  have := h.1
  omega
theorem refOf_v (z s : Int) (n : Bool) (a b : Int) (w : World) (hlo : -9223372036854775808 ≤ z) (hhi : z ≤ 9223372036854775807) (h0 : 0 ≤ s) (h9 : s ≤ 9) (h : DecIs n a b z) :
    Calls Try.prog 20 #[.int .i64 z, .int .i64 s] w (Ret w (· = .agg #[.bool n, .int .u64 a, .int .u64 b, .int .i64 s])) :=
  (refOf_c z s w hlo hhi h0 h9).mono fun e w' ⟨v, ⟨m, c, d, hd, ev⟩, he, hb⟩ => by
    obtain ⟨rfl, rfl, rfl⟩ := decIs_one hd h
    exact ⟨v, ev, he, hb⟩
theorem mul_v (n : Bool) (a b s z : Int) (n' : Bool) (a' b' s' z' : Int) (n2 : Bool) (a2 b2 : Int) (w : World) (h : DecIs n a b z) (h' : DecIs n' a' b' z') (h2 : DecIs n2 a2 b2 (z * z')) (hz : z.natAbs < 1000000000000000000000000000000) (hz' : z'.natAbs < 1000000000000000000000000000000) (h0 : 0 ≤ s) (h0' : 0 ≤ s') (h9 : s + s' ≤ 9) (hp : z.natAbs * z'.natAbs < 1000000000000000000000000000000) :
    Calls Try.prog 21 #[.agg #[.bool n, .int .u64 a, .int .u64 b, .int .i64 s], .agg #[.bool n', .int .u64 a', .int .u64 b', .int .i64 s']] w (Ret w (· = .tuple #[.agg #[.bool n2, .int .u64 a2, .int .u64 b2, .int .i64 (s + s')], .int .i64 0])) :=
  (mul_d n a b s z n' a' b' s' z' w h h' hz hz' h0 h0' h9 hp).mono fun e w' ⟨v, ⟨m, c, d, hd, ev⟩, he, hb⟩ => by
    obtain ⟨rfl, rfl, rfl⟩ := decIs_one hd h2
    exact ⟨v, ev, he, hb⟩
end Go.Proofs.Ytnefckiaojhcdaa

/- What is rounded: how near. -/
import Derived.Test.YtnefckiaojhcdaaQuantG
namespace Go.Proofs.Ytnefckiaojhcdaa
open Go.RowKit
theorem zAt_self (z s : Int) : zAt z s s = z := by unfold zAt; simp
theorem cmpZ_self (a : Int) : cmpZ a a = 0 := by unfold cmpZ; simp
theorem cmpZ_lt {a b : Int} (h : a < b) : cmpZ a b = -1 := by unfold cmpZ; rw [if_neg (by omega), if_pos h]
theorem pow10N_pos (k : Nat) : 0 < 10 ^ k := Nat.pow_pos (by decide)
theorem quantN_down (n : Bool) {x s t m : Int} (_h : t ≤ s) : divN n x s 1 0 t m = roundN n x.natAbs (10 ^ (s - t).toNat) m := by
  unfold divN
  rw [show (t + 0 - s).toNat = 0 by omega, show s - 0 - t = s - t by omega, Nat.pow_zero, Nat.mul_one, show (1 : Int).natAbs = 1 from rfl, Nat.one_mul]
theorem round_one (n : Bool) (A : Nat) (m : Int) : roundN n A 1 m = A := by
  unfold roundN
  rw [Nat.div_one, Nat.mod_one]
  simp
theorem quantN_up (n : Bool) {y s t m : Int} (h : t ≤ s) : divN n y t 1 0 s m = y.natAbs * 10 ^ (s - t).toNat := by
  unfold divN
  rw [show (t - 0 - s).toNat = 0 by omega, show s + 0 - t = s - t by omega, Nat.pow_zero, Nat.mul_one, show (1 : Int).natAbs = 1 from rfl, round_one]
theorem rd_le (n : Bool) (A P : Nat) (m : Int) : roundN n A P m ≤ A + 1 := by
  have : A / P ≤ A := Nat.div_le_self A P
  rcases rd_cases n A P m with ⟨e, _⟩ | ⟨e, _⟩ <;> omega
theorem zOf_mul (n : Bool) (N P : Nat) : zOf n N * (P : Int) = zOf n (N * P) := by
  unfold zOf
  cases n <;> simp [Int.neg_mul]
theorem near_facts {n : Bool} {a b x : Int} (h : DecIs n a b x) (P : Nat) (hP : 0 < P) (m y δ : Int) (hy : zOf n (roundN n x.natAbs P m) = y) (hδ : y * (P : Int) - x = δ) :
    δ.natAbs < P ∧ (3 ≤ m → m ≤ 4 → 2 * δ.natAbs ≤ P) ∧ (m = 0 → δ ≠ 0 → δ.sign ≠ x.sign) ∧ (m = 1 → δ ≠ 0 → δ.sign = x.sign) ∧ (m = 2 → δ ≤ 0) := by
  obtain ⟨R, hR, hRA, hc⟩ := rd_near n x.natAbs P m hP
  rw [← hy, zOf_mul] at hδ
  generalize roundN n x.natAbs P m * P = M at *
  obtain ⟨hn, -, -, -⟩ := h
  have hx : x = zOf n x.natAbs := by
    subst hn; unfold zOf
    by_cases hx : x < 0
    · simp [hx]; omega
    · simp [hx]; omega
  have sg : ∀ (z : Int), (z < 0 → z.sign = -1) ∧ (0 < z → z.sign = 1) ∧ (z = 0 → z.sign = 0) := fun z => ⟨Int.sign_eq_neg_one_of_neg, Int.sign_eq_one_of_pos, fun e => by subst e; rfl⟩
  have hs1 := sg δ
  have hs2 := sg x
  unfold zOf at hδ
  cases n
  · have hx0 : ¬ x < 0 := by simpa using hn.symm
    simp at hδ
    rcases hc with ⟨e, hc⟩ | ⟨e, h0, hc⟩
    · refine ⟨by omega, fun h3 h4 => ?_, fun e0 hd => ?_, fun e0 hd => ?_, fun e0 => by omega⟩
      · rcases hc with hc | hc
        · omega
        · rcases (show m = 3 ∨ m = 4 by omega) with e | e
          · have := hc.2.2.1 e; omega
          · have := hc.2.2.2 e; omega
      · have := hs1.1 (by omega)
        rcases (show x = 0 ∨ 0 < x by omega) with q | q
        · rw [this, hs2.2.2 q]; decide
        · rw [this, hs2.2.1 q]; decide
      · rcases hc with hc | hc
        · omega
        · exact absurd e0 hc.1
    · refine ⟨by omega, fun h3 h4 => ?_, fun e0 hd => by omega, fun e0 hd => ?_, fun e0 => ?_⟩
      · rcases (show m = 3 ∨ m = 4 by omega) with e' | e'
        · have := hc.2.2.1 e'; omega
        · have := hc.2.2.2 e'; omega
      · rw [hs1.2.1 (by omega), hs2.2.1 (by omega)]
      · exact absurd (hc.2.1 e0) (by decide)
  · have hx0 : x < 0 := by simpa using hn.symm
    simp at hδ
    rcases hc with ⟨e, hc⟩ | ⟨e, h0, hc⟩
    · refine ⟨by omega, fun h3 h4 => ?_, fun e0 hd => ?_, fun e0 hd => ?_, fun e0 => ?_⟩
      · rcases hc with hc | hc
        · omega
        · rcases (show m = 3 ∨ m = 4 by omega) with e | e
          · have := hc.2.2.1 e; omega
          · have := hc.2.2.2 e; omega
      · rw [hs1.2.1 (by omega), hs2.1 hx0]; decide
      · rcases hc with hc | hc
        · omega
        · exact absurd e0 hc.1
      · rcases hc with hc | hc
        · omega
        · exact absurd (hc.2.1 e0) (by decide)
    · refine ⟨by omega, fun h3 h4 => ?_, fun e0 hd => by omega, fun e0 hd => ?_, fun e0 => by omega⟩
      · rcases (show m = 3 ∨ m = 4 by omega) with e' | e'
        · have := hc.2.2.1 e'; omega
        · have := hc.2.2.2 e'; omega
      · rw [hs1.1 (by omega), hs2.1 hx0]
end Go.Proofs.Ytnefckiaojhcdaa

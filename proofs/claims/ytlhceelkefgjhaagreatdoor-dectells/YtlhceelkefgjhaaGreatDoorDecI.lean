/- dec.Add at any decimals: one answer. -/
import Derived.Test.YtlhceelkefgjhaaGreatDoorDecH
namespace Go.Proofs.YtlhceelkefgjhaaGreatDoor
open Go.RowKit
theorem zAt_zOf (n : Bool) (N : Nat) (s t : Int) : zAt (zOf n N) s t = zOf n (N * 10 ^ (t - s).toNat) := by
  unfold zAt zOf
  rw [Int.natCast_mul]
  cases n
  · rfl
  · exact Int.neg_mul _ _
theorem upW_same (a b s : Int) : upW a b s s = v2 a b := by
  unfold upW
  rw [Int.sub_self, Int.toNat_zero, Nat.pow_zero, Nat.mul_one]
theorem sum_far (n n' : Bool) (M N : Nat) (h : 340282366920938463463374607431768211456 ≤ M) (hN : N < 1000000000000000000000000000000) : 1000000000000000000000000000000 ≤ (zOf n M + zOf n' N).natAbs ∧ 1000000000000000000000000000000 ≤ (zOf n' N + zOf n M).natAbs := by
  unfold zOf
  cases n <;> cases n' <;> simp <;> omega
/-- What Add answers. -/
def addV (n : Bool) (a b s : Int) (n' : Bool) (a' b' s' : Int) : Value := if RightD n a b s ∧ RightD n' a' b' s' then chkZ (zAt (zOf n (v2 a b)) s (max s s') + zAt (zOf n' (v2 a' b')) s' (max s s')) (max s s') else errV 1
theorem add_all (n : Bool) (a b s : Int) (n' : Bool) (a' b' s' : Int) (w : World) (ha : U64 a) (hb1 : U64 b) (ha' : U64 a') (hb1' : U64 b') :
    Calls Tryz.prog 6 #[.agg #[.bool n, .int .u64 a, .int .u64 b, .int .i64 s], .agg #[.bool n', .int .u64 a', .int .u64 b', .int .i64 s']] w (Ret w (Ans (addV n a b s n' a' b' s'))) := by
  unfold addV
  by_cases hr : RightD n a b s
  · by_cases hr' : RightD n' a' b' s'
    · rw [if_pos ⟨hr, hr'⟩, zAt_zOf, zAt_zOf]
      have ht : (s < s' ∧ s' = max s s') ∨ (s' ≤ s ∧ s = max s s') := by omega
      generalize max s s' = t at ht ⊢
      have h1 := hr.2.1
      have h2 := hr.2.2.1
      have h3 := hr'.2.1
      have h4 := hr'.2.2.1
      have t0 : 0 ≤ t := by omega
      have t9 : t ≤ 9 := by omega
      show Calls _ _ _ w (Ret w (Ans (chkZ (zOf n (upW a b s t) + zOf n' (upW a' b' s' t)) t)))
      by_cases hA : upW a b s t < 340282366920938463463374607431768211456
      · by_cases hB : upW a' b' s' t < 340282366920938463463374607431768211456
        · by_cases hn : n' = n
          · subst hn
            rw [zOf_add]
            by_cases hs : upW a b s t + upW a' b' s' t < 340282366920938463463374607431768211456
            · exact ans_of (addA_same n' a b s a' b' s' t w ha hb1 ha' hb1' hr hr' ht ⟨hA, hB, hs⟩) (chk_z _ _ _ t0 t9)
            · exact ans_of (addA_over n' a b s a' b' s' t w ha hb1 ha' hb1' hr hr' ht ⟨hA, hB, Nat.le_of_not_lt hs⟩) (chk_over (by rw [zOf_abs]; omega)).symm
          · have hn2 : n' = !n := by cases n <;> cases n' <;> simp_all
            by_cases hc : upW a' b' s' t ≤ upW a b s t
            · exact ans_of (addA_ge n n' hn2 a b s a' b' s' t w ha hb1 ha' hb1' hr hr' ht ⟨hA, hB, hc⟩) ((chk_z _ _ _ t0 t9).trans (by rw [hn2, zOf_ge _ _ _ hc]))
            · exact ans_of (addA_lt n n' hn2 a b s a' b' s' t w ha hb1 ha' hb1' hr hr' ht ⟨hA, hB, Nat.lt_of_not_le hc⟩) ((chk_z _ _ _ t0 t9).trans (by rw [hn2, zOf_lt _ _ _ (Nat.lt_of_not_le hc)]))
        · refine ans_of (addA_noroom n n' a b s a' b' s' t w ha hb1 ha' hb1' hr hr' ht (Or.inr (Nat.le_of_not_lt hB))) (chk_over ?_).symm
          have hM : upW a b s t < 1000000000000000000000000000000 := by
            rcases ht with ⟨_, e⟩ | ⟨_, e⟩
            · exfalso
              rw [← e, upW_same] at hB
              have := hr'.1
              omega
            · rw [← e, upW_same]
              exact hr.1
          exact (sum_far n' n _ _ (Nat.le_of_not_lt hB) hM).2
      · refine ans_of (addA_noroom n n' a b s a' b' s' t w ha hb1 ha' hb1' hr hr' ht (Or.inl (Nat.le_of_not_lt hA))) (chk_over ?_).symm
        have hN : upW a' b' s' t < 1000000000000000000000000000000 := by
          rcases ht with ⟨_, e⟩ | ⟨_, e⟩
          · rw [← e, upW_same]
            exact hr'.1
          · exfalso
            rw [← e, upW_same] at hA
            have := hr.1
            omega
        exact (sum_far n n' _ _ (Nat.le_of_not_lt hA) hN).1
    · rw [if_neg (fun h => hr' h.2)]
      exact addN_b n a b s n' a' b' s' w ha hb1 ha' hb1' hr hr'
  · rw [if_neg (fun h => hr h.1)]
    exact addN_a n a b s n' a' b' s' w ha hb1 hr
end Go.Proofs.YtlhceelkefgjhaaGreatDoor

/- QuantSigns: what it comes to. -/
import Derived.Test.YtfppkhbbcnplfaaQuantH
import Derived.Test.YtfppkhbbcnplfaaQuantI
namespace Go.Proofs.Ytfppkhbbcnplfaa
open Go.RowKit
theorem far_sym (n n' o : Bool) (c m : Int) (hm : m ≠ 2) : farB n o c m = farB n' o c m := by
  unfold farB
  rw [if_neg hm, if_neg hm]
theorem round_sym (n n' : Bool) (A P : Nat) (m : Int) (hm : m ≠ 2) : roundN n A P m = roundN n' A P m := by
  unfold roundN
  rw [far_sym n n' _ _ m hm]
theorem divN_neg (n n' : Bool) (x s y t o m : Int) (hm : m ≠ 2) : divN n' (-x) s y t o m = divN n x s y t o m := by
  unfold divN
  rw [Int.natAbs_neg]
  exact round_sym n' n _ _ m hm
theorem round_zero (n : Bool) (P : Nat) (m : Int) : roundN n 0 P m = 0 := by
  unfold roundN
  rw [Nat.zero_div, Nat.zero_mod]
  simp
theorem divN_zero (n : Bool) (s y t o m : Int) : divN n 0 s y t o m = 0 := by
  unfold divN
  rw [show (0 : Int).natAbs = 0 from rfl, Nat.zero_mul]
  exact round_zero n _ m
theorem zOf_negx {n n' : Bool} {x : Int} {N : Nat} (hn : n = decide (x < 0)) (hn' : n' = decide (-x < 0)) (h0 : x = 0 → N = 0) : zOf n' N = -zOf n N := by
  subst hn hn'
  unfold zOf
  rcases (show x < 0 ∨ x = 0 ∨ 0 < x by omega) with h | h | h
  · rw [decide_eq_false (show ¬ -x < 0 by omega), decide_eq_true h]; simp
  · simp [h, h0 h]
  · rw [decide_eq_true (show -x < 0 by omega), decide_eq_false (show ¬ x < 0 by omega)]; simp
theorem far_floor (n o : Bool) (c like : Int) (hl : (n = true ∧ like = 1) ∨ (n = false ∧ like = 0)) : farB n o c like = farB n o c 2 := by
  rcases hl with ⟨rfl, rfl⟩ | ⟨rfl, rfl⟩ <;> simp [farB]
theorem round_floor (n : Bool) (A P : Nat) (like : Int) (hl : (n = true ∧ like = 1) ∨ (n = false ∧ like = 0)) : roundN n A P like = roundN n A P 2 := by
  unfold roundN
  rw [far_floor n _ _ like hl]
theorem divN_le (n : Bool) (x s y t o m : Int) {M : Nat} (hM : x.natAbs * 10 ^ (o + t - s).toNat ≤ M) : divN n x s y t o m ≤ M + 1 := by
  unfold divN
  exact Nat.le_trans (rd_le _ _ _ _) (by omega)
theorem div_v (n : Bool) (a b s z : Int) (n' : Bool) (a' b' s' z' t mode : Int) (n2 : Bool) (a2 b2 y : Int) (w : World) (h : DecIs n a b z) (h' : DecIs n' a' b' z') (h2 : DecIs n2 a2 b2 y) (hz : z.natAbs < 1000000000000000000000000000000) (hz' : Sm z') (hz0 : z' ≠ 0) (h0 : 0 ≤ s) (h0' : 0 ≤ s') (h9 : s ≤ 9) (h9' : s' ≤ 9) (ht0 : 0 ≤ t) (ht9 : t ≤ 9) (hm : mode = 0 ∨ mode = 1 ∨ mode = 2 ∨ mode = 3 ∨ mode = 4)
    (N : Nat) (hN : divN (n != n') z s z' s' t mode = N) (hb30 : N < 1000000000000000000000000000000) (hy : zOf (n != n') N = y) :
    Calls Try.prog 10 #[.agg #[.bool n, .int .u64 a, .int .u64 b, .int .i64 s], .agg #[.bool n', .int .u64 a', .int .u64 b', .int .i64 s'], .int .i64 t, .int .i64 mode] w (Ret w (· = .tuple #[.agg #[.bool n2, .int .u64 a2, .int .u64 b2, .int .i64 t], .int .i64 0])) :=
  (div_q n a b s z n' a' b' s' z' t mode w h h' hz hz' hz0 h0 h0' h9 h9' ht0 ht9 hm N hN hb30).mono fun e w' ⟨v, ⟨m, c, d, hd, ev⟩, he, hb⟩ => by
    rw [hy] at hd
    obtain ⟨rfl, rfl, rfl⟩ := decIs_one hd h2
    exact ⟨v, ev, he, hb⟩
theorem dec_ex (z : Int) (hz : z.natAbs < 1000000000000000000000000000000) : ∃ (n : Bool) (a b : Int), DecIs n a b z := by
  obtain ⟨n, a, b, h, -⟩ := decV_is (z := z) (s := 0) hz
  exact ⟨n, a, b, h⟩
end Go.Proofs.Ytfppkhbbcnplfaa

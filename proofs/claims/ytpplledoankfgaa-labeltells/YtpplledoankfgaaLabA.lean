/- Package label: bit, number, digit, Join, Meet, Below, Right, Of. -/
import Derived.Test.YtpplledoankfgaaBytesA
import Derived.Test.YtpplledoankfgaaLabP
import Derived.Laws.Bits64
import Derived.Test.YtpplledoankfgaaDetB
import Derived.Test.YtpplledoankfgaaHoldB
namespace Go.Proofs.Ytpplledoankfgaa
open Go.RowKit
theorem pow_cases (P : Nat → Prop) (h0 : P 0) (h1 : P 1) (h2 : P 2) (h3 : P 3) (h4 : P 4) (h5 : P 5) (h6 : P 6) (h7 : P 7) (h8 : P 8) : ∀ k, k ≤ 8 → P k
  | 0, _ => h0 | 1, _ => h1 | 2, _ => h2 | 3, _ => h3 | 4, _ => h4 | 5, _ => h5 | 6, _ => h6 | 7, _ => h7 | 8, _ => h8
  | _ + 9, h => by omega
theorem bit_c (k : Nat) (x : Int) (w : World) (hx : x = (k : Int)) (hk : k ≤ 8) : Calls Try.prog 28 #[.int .i64 x] w fun e w' => e = .returned (.int .u64 ((2 ^ k : Nat) : Int)) ∧ w = w' := by
  subst hx
  refine pow_cases (fun k => Calls Try.prog 28 #[.int .i64 (k : Int)] w fun e w' => e = .returned (.int .u64 ((2 ^ k : Nat) : Int)) ∧ w = w') ?_ ?_ ?_ ?_ ?_ ?_ ?_ ?_ ?_ k hk <;>
  · go_enter Try.func28, Try.ntmps28
    go_wp2
    go_ret
    exact ⟨rfl, rfl⟩
theorem number_c (x : Int) (w : World) (h0 : 0 ≤ x) (h1 : x < 256) : Calls Try.prog 27 #[.int .u8 x] w fun e w' => e = .returned (.int .i64 (x - 48)) ∧ w = w' := by
  go_enter Try.func27, Try.ntmps27
  go_wp2
  go_ret
  exact ⟨rfl, rfl⟩
theorem digit_c (k : Nat) (x : Int) (w : World) (hx : x = (k : Int)) (hk : k ≤ 9) : Calls Try.prog 29 #[.int .i64 x] w fun e w' => e = .returned (.int .u8 ((dg k).toNat : Int)) ∧ w = w' := by
  have hd : ((dg k).toNat : Int) = 48 + (k : Int) := by
    unfold dg
    rw [u8_of _ (by omega)]
    omega
  subst hx
  rw [hd]
  go_enter Try.func29, Try.ntmps29
  go_wp2
  go_ret
  exact ⟨rfl, rfl⟩
def labV (n : Nat) (v : Int) : Value := .agg #[.int .u64 (n : Int), .int .i64 v]
/-- A label was returned; what was there stays. -/
def RetL (w : World) (n : Nat) (v : Int) (e : Ending) (w' : World) : Prop := e = .returned (.agg #[.int .u64 (n : Int), .int .i64 v]) ∧ Below w.heap.size w w'
def RetB (w : World) (b : Bool) (e : Ending) (w' : World) : Prop := e = .returned (.bool b) ∧ Below w.heap.size w w'
theorem or_bits {a b : Nat} {x y : Int} (ha : a < 18446744073709551616) (hb : b < 18446744073709551616) (hx : x = (a : Int)) (hy : y = (b : Int)) : bits .or .u64 x y = ((a ||| b : Nat) : Int) := by
  rw [hx, hy]; exact u64_or_nat a b ha hb
theorem and_bits {a b : Nat} {x y : Int} (ha : a < 18446744073709551616) (hb : b < 18446744073709551616) (hx : x = (a : Int)) (hy : y = (b : Int)) : bits .and .u64 x y = ((a &&& b : Nat) : Int) := by
  rw [hx, hy]; exact u64_and_nat a b ha hb
theorem andNot_bits {a b : Nat} {x y : Int} (ha : a < 18446744073709551616) (hb : b < 18446744073709551616) (hx : x = (a : Int)) (hy : y = (b : Int)) : (bits .andNot .u64 x y == 0) = decide (a &&& b = a) := by
  rw [hx, hy, u64_andNot_nat a b ha hb]
  have h := andNot_zero ha hb
  by_cases e : a &&& b = a
  · rw [h.2 e, decide_eq_true e]; rfl
  · rw [decide_eq_false e]
    have : a &&& (18446744073709551615 - b) ≠ 0 := fun g => e (h.1 g)
    simp only [beq_eq_false_iff_ne, ne_eq]
    omega
section
variable (a b : Nat) (x y v u : Int) (w : World) (hx : x = (a : Int)) (hy : y = (b : Int)) (ha : a < 18446744073709551616) (hb : b < 18446744073709551616)
include hx hy ha hb
theorem join_c : Calls Try.prog 11 #[.agg #[.int .u64 x, .int .i64 v], .agg #[.int .u64 y, .int .i64 u]] w (RetL w (a ||| b) (max v u)) := by
  have ho := or_bits ha hb hx hy
  clear hx hy
  go_enter Try.func11, Try.ntmps11
  go_wp2
  all_goals exact bodyPost_ret (v := .agg #[.int .u64 ((a ||| b : Nat) : Int), .int .i64 (max v u)]) (by simp [results, Try.results11, go_sem]; omega) rfl ⟨rfl, bel_alloc (bel_alloc (bel_alloc (Below.refl _ _) _) _) _⟩
theorem meet_c : Calls Try.prog 12 #[.agg #[.int .u64 x, .int .i64 v], .agg #[.int .u64 y, .int .i64 u]] w (RetL w (a &&& b) (min v u)) := by
  have ho := and_bits ha hb hx hy
  clear hx hy
  go_enter Try.func12, Try.ntmps12
  go_wp2
  all_goals exact bodyPost_ret (v := .agg #[.int .u64 ((a &&& b : Nat) : Int), .int .i64 (min v u)]) (by simp [results, Try.results12, go_sem]; omega) rfl ⟨rfl, bel_alloc (bel_alloc (bel_alloc (Below.refl _ _) _) _) _⟩
theorem below_c : Calls Try.prog 13 #[.agg #[.int .u64 x, .int .i64 v], .agg #[.int .u64 y, .int .i64 u]] w (RetB w (belowB a v b u)) := by
  have ho := andNot_bits ha hb hx hy
  clear hx hy
  by_cases hs : a &&& b = a
  · rw [decide_eq_true hs] at ho
    go_enter Try.func13, Try.ntmps13
    go_wp2
    go_ret
    exact ⟨by simp [belowB, hs], bel_alloc (bel_alloc (Below.refl _ _) _) _⟩
  · rw [decide_eq_false hs] at ho
    go_enter Try.func13, Try.ntmps13
    go_wp2
    go_ret
    exact ⟨by simp [belowB, hs], bel_alloc (bel_alloc (Below.refl _ _) _) _⟩
end
def BoxR (g : Nat) (x v : Int) (W V : World) : Prop := V.cell? ⟨g, 0, none⟩ = some (.int .u64 x) ∧ V.cell? ⟨g, 1, none⟩ = some (.int .i64 v) ∧ Below W.heap.size W V
theorem right_c (a : Nat) (x v : Int) (w : World) (hx : x = (a : Int)) : Calls Try.prog 15 #[.agg #[.int .u64 x, .int .i64 v]] w (RetB w (rightB a v)) := by
  have hR : ∀ P Q R : Bool, decide (x < 256) = P → decide (0 ≤ v) = Q → decide (v ≤ 3) = R → rightB a v = (P && Q && R) := by
    rintro P Q R rfl rfl rfl
    unfold rightB
    congr 2
    exact decide_eq_decide.2 (by omega)
  clear hx
  have hS0 : BoxR w.heap.size x v w ((w.alloc (.cells #[.int .u64 x, .int .i64 v] 25)).drew) := ⟨by simp, by simp, (bel_alloc (Below.refl _ _) _).drew⟩
  by_cases hs : x < 256
  · have hd : decide (x < 256) = true := decide_eq_true hs
    by_cases h0 : 0 ≤ v
    · have hd0 : decide (0 ≤ v) = true := decide_eq_true h0
      have h2 := hR true true _ hd hd0 rfl
      clear hR
      go_enter Try.func15, Try.ntmps15
      go_wp2_with fail
      refine wp_region_det (S := BoxR w.heap.size x v w) (by kernel_rfl) hS0 ?_
      refine det_take (v := ?_) (i := 0) (fuel := 14) (by simp; rfl) (by kernel_rfl) (by kernel_rfl) (by kernel_rfl) (Or.inl ⟨by rfl, fun w' hS => Or.inl ⟨w', ?_, hS⟩⟩) ?_
      rotate_left
      · obtain ⟨c0, c1, _⟩ := hS
        go_simp
        all_goals with_reducible rfl
      simp only [Act.put, List.setIfInBounds_toArray, List.set_cons_zero, List.set_cons_succ]
      refine det_take (v := ?_) (i := 1) (fuel := 13) (by simp; rfl) (by kernel_rfl) (by kernel_rfl) (by kernel_rfl) (Or.inl ⟨by rfl, fun w' hS => Or.inl ⟨w', ?_, hS⟩⟩) ?_
      rotate_left
      · obtain ⟨c0, c1, _⟩ := hS
        go_simp
        all_goals with_reducible rfl
      simp only [Act.put, List.setIfInBounds_toArray, List.set_cons_zero, List.set_cons_succ]
      refine det_take (v := ?_) (i := 2) (fuel := 12) (by simp; rfl) (by kernel_rfl) (by kernel_rfl) (by kernel_rfl) (Or.inl ⟨by rfl, fun w' hS => Or.inr ⟨28, #[.int .i64 8], w', ?_, ?_⟩⟩) ?_
      rotate_left
      · go_simp
        all_goals with_reducible rfl
      · exact (bit_c 8 8 w' rfl (by decide)).mono fun e w2 h => ⟨by rw [h.1], h.2 ▸ hS⟩
      simp only [Act.put, List.setIfInBounds_toArray, List.set_cons_zero, List.set_cons_succ]
      refine det_take (v := ?_) (i := 3) (fuel := 11) (by simp; rfl) (by kernel_rfl) (by kernel_rfl) (by kernel_rfl) (Or.inl ⟨by rfl, fun w' hS => Or.inl ⟨w', ?_, hS⟩⟩) ?_
      rotate_left
      · obtain ⟨c0, c1, _⟩ := hS
        go_simp
        all_goals with_reducible rfl
      simp only [Act.put, List.setIfInBounds_toArray, List.set_cons_zero, List.set_cons_succ]
      refine det_take (v := ?_) (i := 4) (fuel := 10) (by simp; rfl) (by kernel_rfl) (by kernel_rfl) (by kernel_rfl) (Or.inl ⟨by rfl, fun w' hS => Or.inl ⟨w', ?_, hS⟩⟩) ?_
      rotate_left
      · obtain ⟨c0, c1, _⟩ := hS
        go_simp
        all_goals with_reducible rfl
      simp only [Act.put, List.setIfInBounds_toArray, List.set_cons_zero, List.set_cons_succ]
      refine det_take (v := ?_) (i := 5) (fuel := 9) (by simp; rfl) (by kernel_rfl) (by kernel_rfl) (by kernel_rfl) (Or.inl ⟨by rfl, fun w' hS => Or.inl ⟨w', ?_, hS⟩⟩) ?_
      rotate_left
      · obtain ⟨c0, c1, _⟩ := hS
        go_simp
        all_goals with_reducible rfl
      simp only [Act.put, List.setIfInBounds_toArray, List.set_cons_zero, List.set_cons_succ]
      refine det_take (v := ?_) (i := 6) (fuel := 8) (by simp; rfl) (by kernel_rfl) (by kernel_rfl) (by kernel_rfl) (Or.inl ⟨by rfl, fun w' hS => Or.inl ⟨w', ?_, hS⟩⟩) ?_
      rotate_left
      · obtain ⟨c0, c1, _⟩ := hS
        go_simp
        all_goals with_reducible rfl
      simp only [Act.put, List.setIfInBounds_toArray, List.set_cons_zero, List.set_cons_succ]
      refine det_take (v := ?_) (i := 7) (fuel := 7) (by simp; rfl) (by kernel_rfl) (by kernel_rfl) (by kernel_rfl) (Or.inl ⟨by rfl, fun w' hS => Or.inl ⟨w', ?_, hS⟩⟩) ?_
      rotate_left
      · obtain ⟨c0, c1, _⟩ := hS
        go_simp
        all_goals with_reducible rfl
      simp only [Act.put, List.setIfInBounds_toArray, List.set_cons_zero, List.set_cons_succ]
      refine det_take (v := ?_) (i := 8) (fuel := 6) (by simp; rfl) (by kernel_rfl) (by kernel_rfl) (by kernel_rfl) (Or.inl ⟨by rfl, fun w' hS => Or.inl ⟨w', ?_, hS⟩⟩) ?_
      rotate_left
      · obtain ⟨c0, c1, _⟩ := hS
        go_simp
        all_goals with_reducible rfl
      simp only [Act.put, List.setIfInBounds_toArray, List.set_cons_zero, List.set_cons_succ]
      refine det_take (v := ?_) (i := 9) (fuel := 5) (by simp; rfl) (by kernel_rfl) (by kernel_rfl) (by kernel_rfl) (Or.inl ⟨by rfl, fun w' hS => Or.inl ⟨w', ?_, hS⟩⟩) ?_
      rotate_left
      · obtain ⟨c0, c1, _⟩ := hS
        go_simp
        all_goals with_reducible rfl
      simp only [Act.put, List.setIfInBounds_toArray, List.set_cons_zero, List.set_cons_succ]
      refine det_take (v := ?_) (i := 10) (fuel := 4) (by simp; rfl) (by kernel_rfl) (by kernel_rfl) (by kernel_rfl) (Or.inl ⟨by rfl, fun w' hS => Or.inl ⟨w', ?_, hS⟩⟩) ?_
      rotate_left
      · obtain ⟨c0, c1, _⟩ := hS
        go_simp
        all_goals with_reducible rfl
      simp only [Act.put, List.setIfInBounds_toArray, List.set_cons_zero, List.set_cons_succ]
      refine det_take (v := ?_) (i := 11) (fuel := 3) (by simp; rfl) (by kernel_rfl) (by kernel_rfl) (by kernel_rfl) (Or.inl ⟨by rfl, fun w' hS => Or.inl ⟨w', ?_, hS⟩⟩) ?_
      rotate_left
      · obtain ⟨c0, c1, _⟩ := hS
        go_simp
        all_goals with_reducible rfl
      simp only [Act.put, List.setIfInBounds_toArray, List.set_cons_zero, List.set_cons_succ]
      refine det_take (v := ?_) (i := 12) (fuel := 2) (by simp; rfl) (by kernel_rfl) (by kernel_rfl) (by kernel_rfl) (Or.inl ⟨by rfl, fun w' hS => Or.inl ⟨w', ?_, hS⟩⟩) ?_
      rotate_left
      · obtain ⟨c0, c1, _⟩ := hS
        go_simp
        all_goals with_reducible rfl
      simp only [Act.put, List.setIfInBounds_toArray, List.set_cons_zero, List.set_cons_succ]
      refine det_take (v := ?_) (i := 13) (fuel := 1) (by simp; rfl) (by kernel_rfl) (by kernel_rfl) (by kernel_rfl) (Or.inl ⟨by rfl, fun w' hS => Or.inl ⟨w', ?_, hS⟩⟩) ?_
      rotate_left
      · obtain ⟨c0, c1, _⟩ := hS
        go_simp
        all_goals with_reducible rfl
      simp only [Act.put, List.setIfInBounds_toArray, List.set_cons_zero, List.set_cons_succ]
      refine det_take (v := ?_) (i := 14) (fuel := 0) (by simp; rfl) (by kernel_rfl) (by kernel_rfl) (by kernel_rfl) (Or.inl ⟨by rfl, fun w' hS => Or.inl ⟨w', ?_, hS⟩⟩) ?_
      rotate_left
      · obtain ⟨c0, c1, _⟩ := hS
        go_simp
        all_goals with_reducible rfl
      simp only [Act.put, List.setIfInBounds_toArray, List.set_cons_zero, List.set_cons_succ]
      refine det_done (by kernel_rfl) (fun V hV => ?_) _
      go_wp2
      go_ret
      refine ⟨?_, hV.2.2⟩
      rw [h2]
      simp
    · have hd0 : decide (0 ≤ v) = false := decide_eq_false h0
      have h2 := hR true false _ hd hd0 rfl
      clear hR
      go_enter Try.func15, Try.ntmps15
      go_wp2_with fail
      refine wp_region_det (S := BoxR w.heap.size x v w) (by kernel_rfl) hS0 ?_
      refine det_take (v := ?_) (i := 0) (fuel := 14) (by simp; rfl) (by kernel_rfl) (by kernel_rfl) (by kernel_rfl) (Or.inl ⟨by rfl, fun w' hS => Or.inl ⟨w', ?_, hS⟩⟩) ?_
      rotate_left
      · obtain ⟨c0, c1, _⟩ := hS
        go_simp
        all_goals with_reducible rfl
      simp only [Act.put, List.setIfInBounds_toArray, List.set_cons_zero, List.set_cons_succ]
      refine det_take (v := ?_) (i := 1) (fuel := 13) (by simp; rfl) (by kernel_rfl) (by kernel_rfl) (by kernel_rfl) (Or.inl ⟨by rfl, fun w' hS => Or.inl ⟨w', ?_, hS⟩⟩) ?_
      rotate_left
      · obtain ⟨c0, c1, _⟩ := hS
        go_simp
        all_goals with_reducible rfl
      simp only [Act.put, List.setIfInBounds_toArray, List.set_cons_zero, List.set_cons_succ]
      refine det_take (v := ?_) (i := 2) (fuel := 12) (by simp; rfl) (by kernel_rfl) (by kernel_rfl) (by kernel_rfl) (Or.inl ⟨by rfl, fun w' hS => Or.inr ⟨28, #[.int .i64 8], w', ?_, ?_⟩⟩) ?_
      rotate_left
      · go_simp
        all_goals with_reducible rfl
      · exact (bit_c 8 8 w' rfl (by decide)).mono fun e w2 h => ⟨by rw [h.1], h.2 ▸ hS⟩
      simp only [Act.put, List.setIfInBounds_toArray, List.set_cons_zero, List.set_cons_succ]
      refine det_take (v := ?_) (i := 3) (fuel := 11) (by simp; rfl) (by kernel_rfl) (by kernel_rfl) (by kernel_rfl) (Or.inl ⟨by rfl, fun w' hS => Or.inl ⟨w', ?_, hS⟩⟩) ?_
      rotate_left
      · obtain ⟨c0, c1, _⟩ := hS
        go_simp
        all_goals with_reducible rfl
      simp only [Act.put, List.setIfInBounds_toArray, List.set_cons_zero, List.set_cons_succ]
      refine det_take (v := ?_) (i := 4) (fuel := 10) (by simp; rfl) (by kernel_rfl) (by kernel_rfl) (by kernel_rfl) (Or.inl ⟨by rfl, fun w' hS => Or.inl ⟨w', ?_, hS⟩⟩) ?_
      rotate_left
      · obtain ⟨c0, c1, _⟩ := hS
        go_simp
        all_goals with_reducible rfl
      simp only [Act.put, List.setIfInBounds_toArray, List.set_cons_zero, List.set_cons_succ]
      refine det_take (v := ?_) (i := 5) (fuel := 9) (by simp; rfl) (by kernel_rfl) (by kernel_rfl) (by kernel_rfl) (Or.inl ⟨by rfl, fun w' hS => Or.inl ⟨w', ?_, hS⟩⟩) ?_
      rotate_left
      · obtain ⟨c0, c1, _⟩ := hS
        go_simp
        all_goals with_reducible rfl
      simp only [Act.put, List.setIfInBounds_toArray, List.set_cons_zero, List.set_cons_succ]
      refine det_take (v := ?_) (i := 6) (fuel := 8) (by simp; rfl) (by kernel_rfl) (by kernel_rfl) (by kernel_rfl) (Or.inl ⟨by rfl, fun w' hS => Or.inl ⟨w', ?_, hS⟩⟩) ?_
      rotate_left
      · obtain ⟨c0, c1, _⟩ := hS
        go_simp
        all_goals with_reducible rfl
      simp only [Act.put, List.setIfInBounds_toArray, List.set_cons_zero, List.set_cons_succ]
      refine det_take (v := ?_) (i := 7) (fuel := 7) (by simp; rfl) (by kernel_rfl) (by kernel_rfl) (by kernel_rfl) (Or.inl ⟨by rfl, fun w' hS => Or.inl ⟨w', ?_, hS⟩⟩) ?_
      rotate_left
      · obtain ⟨c0, c1, _⟩ := hS
        go_simp
        all_goals with_reducible rfl
      simp only [Act.put, List.setIfInBounds_toArray, List.set_cons_zero, List.set_cons_succ]
      refine det_take (v := ?_) (i := 8) (fuel := 6) (by simp; rfl) (by kernel_rfl) (by kernel_rfl) (by kernel_rfl) (Or.inl ⟨by rfl, fun w' hS => Or.inl ⟨w', ?_, hS⟩⟩) ?_
      rotate_left
      · obtain ⟨c0, c1, _⟩ := hS
        go_simp
        all_goals with_reducible rfl
      simp only [Act.put, List.setIfInBounds_toArray, List.set_cons_zero, List.set_cons_succ]
      refine det_take (v := ?_) (i := 9) (fuel := 5) (by simp; rfl) (by kernel_rfl) (by kernel_rfl) (by kernel_rfl) (Or.inl ⟨by rfl, fun w' hS => Or.inl ⟨w', ?_, hS⟩⟩) ?_
      rotate_left
      · obtain ⟨c0, c1, _⟩ := hS
        go_simp
        all_goals with_reducible rfl
      simp only [Act.put, List.setIfInBounds_toArray, List.set_cons_zero, List.set_cons_succ]
      refine det_take (v := undef) (i := 10) (fuel := 4) (by simp; rfl) (by kernel_rfl) (by kernel_rfl) (by kernel_rfl) (Or.inr ⟨by rfl, by rfl⟩) ?_
      simp only [Act.put, List.setIfInBounds_toArray, List.set_cons_zero, List.set_cons_succ]
      refine det_take (v := undef) (i := 11) (fuel := 3) (by simp; rfl) (by kernel_rfl) (by kernel_rfl) (by kernel_rfl) (Or.inr ⟨by rfl, by rfl⟩) ?_
      simp only [Act.put, List.setIfInBounds_toArray, List.set_cons_zero, List.set_cons_succ]
      refine det_take (v := undef) (i := 12) (fuel := 2) (by simp; rfl) (by kernel_rfl) (by kernel_rfl) (by kernel_rfl) (Or.inr ⟨by rfl, by rfl⟩) ?_
      simp only [Act.put, List.setIfInBounds_toArray, List.set_cons_zero, List.set_cons_succ]
      refine det_take (v := ?_) (i := 13) (fuel := 1) (by simp; rfl) (by kernel_rfl) (by kernel_rfl) (by kernel_rfl) (Or.inl ⟨by rfl, fun w' hS => Or.inl ⟨w', ?_, hS⟩⟩) ?_
      rotate_left
      · obtain ⟨c0, c1, _⟩ := hS
        go_simp
        all_goals with_reducible rfl
      simp only [Act.put, List.setIfInBounds_toArray, List.set_cons_zero, List.set_cons_succ]
      refine det_take (v := ?_) (i := 14) (fuel := 0) (by simp; rfl) (by kernel_rfl) (by kernel_rfl) (by kernel_rfl) (Or.inl ⟨by rfl, fun w' hS => Or.inl ⟨w', ?_, hS⟩⟩) ?_
      rotate_left
      · obtain ⟨c0, c1, _⟩ := hS
        go_simp
        all_goals with_reducible rfl
      simp only [Act.put, List.setIfInBounds_toArray, List.set_cons_zero, List.set_cons_succ]
      refine det_done (by kernel_rfl) (fun V hV => ?_) _
      go_wp2
      go_ret
      refine ⟨?_, hV.2.2⟩
      rw [h2]
      simp
  · have hd : decide (x < 256) = false := decide_eq_false hs
    have h2 := hR false _ _ hd rfl rfl
    clear hR
    go_enter Try.func15, Try.ntmps15
    go_wp2_with fail
    refine wp_region_det (S := BoxR w.heap.size x v w) (by kernel_rfl) hS0 ?_
    refine det_take (v := ?_) (i := 0) (fuel := 14) (by simp; rfl) (by kernel_rfl) (by kernel_rfl) (by kernel_rfl) (Or.inl ⟨by rfl, fun w' hS => Or.inl ⟨w', ?_, hS⟩⟩) ?_
    rotate_left
    · obtain ⟨c0, c1, _⟩ := hS
      go_simp
      all_goals with_reducible rfl
    simp only [Act.put, List.setIfInBounds_toArray, List.set_cons_zero, List.set_cons_succ]
    refine det_take (v := ?_) (i := 1) (fuel := 13) (by simp; rfl) (by kernel_rfl) (by kernel_rfl) (by kernel_rfl) (Or.inl ⟨by rfl, fun w' hS => Or.inl ⟨w', ?_, hS⟩⟩) ?_
    rotate_left
    · obtain ⟨c0, c1, _⟩ := hS
      go_simp
      all_goals with_reducible rfl
    simp only [Act.put, List.setIfInBounds_toArray, List.set_cons_zero, List.set_cons_succ]
    refine det_take (v := ?_) (i := 2) (fuel := 12) (by simp; rfl) (by kernel_rfl) (by kernel_rfl) (by kernel_rfl) (Or.inl ⟨by rfl, fun w' hS => Or.inr ⟨28, #[.int .i64 8], w', ?_, ?_⟩⟩) ?_
    rotate_left
    · go_simp
      all_goals with_reducible rfl
    · exact (bit_c 8 8 w' rfl (by decide)).mono fun e w2 h => ⟨by rw [h.1], h.2 ▸ hS⟩
    simp only [Act.put, List.setIfInBounds_toArray, List.set_cons_zero, List.set_cons_succ]
    refine det_take (v := ?_) (i := 3) (fuel := 11) (by simp; rfl) (by kernel_rfl) (by kernel_rfl) (by kernel_rfl) (Or.inl ⟨by rfl, fun w' hS => Or.inl ⟨w', ?_, hS⟩⟩) ?_
    rotate_left
    · obtain ⟨c0, c1, _⟩ := hS
      go_simp
      all_goals with_reducible rfl
    simp only [Act.put, List.setIfInBounds_toArray, List.set_cons_zero, List.set_cons_succ]
    refine det_take (v := ?_) (i := 4) (fuel := 10) (by simp; rfl) (by kernel_rfl) (by kernel_rfl) (by kernel_rfl) (Or.inl ⟨by rfl, fun w' hS => Or.inl ⟨w', ?_, hS⟩⟩) ?_
    rotate_left
    · obtain ⟨c0, c1, _⟩ := hS
      go_simp
      all_goals with_reducible rfl
    simp only [Act.put, List.setIfInBounds_toArray, List.set_cons_zero, List.set_cons_succ]
    refine det_take (v := undef) (i := 5) (fuel := 9) (by simp; rfl) (by kernel_rfl) (by kernel_rfl) (by kernel_rfl) (Or.inr ⟨by rfl, by rfl⟩) ?_
    simp only [Act.put, List.setIfInBounds_toArray, List.set_cons_zero, List.set_cons_succ]
    refine det_take (v := undef) (i := 6) (fuel := 8) (by simp; rfl) (by kernel_rfl) (by kernel_rfl) (by kernel_rfl) (Or.inr ⟨by rfl, by rfl⟩) ?_
    simp only [Act.put, List.setIfInBounds_toArray, List.set_cons_zero, List.set_cons_succ]
    refine det_take (v := undef) (i := 7) (fuel := 7) (by simp; rfl) (by kernel_rfl) (by kernel_rfl) (by kernel_rfl) (Or.inr ⟨by rfl, by rfl⟩) ?_
    simp only [Act.put, List.setIfInBounds_toArray, List.set_cons_zero, List.set_cons_succ]
    refine det_take (v := ?_) (i := 8) (fuel := 6) (by simp; rfl) (by kernel_rfl) (by kernel_rfl) (by kernel_rfl) (Or.inl ⟨by rfl, fun w' hS => Or.inl ⟨w', ?_, hS⟩⟩) ?_
    rotate_left
    · obtain ⟨c0, c1, _⟩ := hS
      go_simp
      all_goals with_reducible rfl
    simp only [Act.put, List.setIfInBounds_toArray, List.set_cons_zero, List.set_cons_succ]
    refine det_take (v := ?_) (i := 9) (fuel := 5) (by simp; rfl) (by kernel_rfl) (by kernel_rfl) (by kernel_rfl) (Or.inl ⟨by rfl, fun w' hS => Or.inl ⟨w', ?_, hS⟩⟩) ?_
    rotate_left
    · obtain ⟨c0, c1, _⟩ := hS
      go_simp
      all_goals with_reducible rfl
    simp only [Act.put, List.setIfInBounds_toArray, List.set_cons_zero, List.set_cons_succ]
    refine det_take (v := undef) (i := 10) (fuel := 4) (by simp; rfl) (by kernel_rfl) (by kernel_rfl) (by kernel_rfl) (Or.inr ⟨by rfl, by rfl⟩) ?_
    simp only [Act.put, List.setIfInBounds_toArray, List.set_cons_zero, List.set_cons_succ]
    refine det_take (v := undef) (i := 11) (fuel := 3) (by simp; rfl) (by kernel_rfl) (by kernel_rfl) (by kernel_rfl) (Or.inr ⟨by rfl, by rfl⟩) ?_
    simp only [Act.put, List.setIfInBounds_toArray, List.set_cons_zero, List.set_cons_succ]
    refine det_take (v := undef) (i := 12) (fuel := 2) (by simp; rfl) (by kernel_rfl) (by kernel_rfl) (by kernel_rfl) (Or.inr ⟨by rfl, by rfl⟩) ?_
    simp only [Act.put, List.setIfInBounds_toArray, List.set_cons_zero, List.set_cons_succ]
    refine det_take (v := ?_) (i := 13) (fuel := 1) (by simp; rfl) (by kernel_rfl) (by kernel_rfl) (by kernel_rfl) (Or.inl ⟨by rfl, fun w' hS => Or.inl ⟨w', ?_, hS⟩⟩) ?_
    rotate_left
    · obtain ⟨c0, c1, _⟩ := hS
      go_simp
      all_goals with_reducible rfl
    simp only [Act.put, List.setIfInBounds_toArray, List.set_cons_zero, List.set_cons_succ]
    refine det_take (v := ?_) (i := 14) (fuel := 0) (by simp; rfl) (by kernel_rfl) (by kernel_rfl) (by kernel_rfl) (Or.inl ⟨by rfl, fun w' hS => Or.inl ⟨w', ?_, hS⟩⟩) ?_
    rotate_left
    · obtain ⟨c0, c1, _⟩ := hS
      go_simp
      all_goals with_reducible rfl
    simp only [Act.put, List.setIfInBounds_toArray, List.set_cons_zero, List.set_cons_succ]
    refine det_done (by kernel_rfl) (fun V hV => ?_) _
    go_wp2
    go_ret
    refine ⟨?_, hV.2.2⟩
    rw [h2]
    simp
theorem of_c (x v : Int) (w : World) : Calls Try.prog 14 #[.int .i64 x, .int .i64 v] w (RetL w (ofSet x) (min (max v 0) 3)) := by
  rcases (by omega : v < 0 ∨ (0 ≤ v ∧ v ≤ 3) ∨ 3 < v) with hv | ⟨hv, hv3⟩ | hv
  · rw [show min (max v 0) 3 = (0 : Int) by omega]
    by_cases hs : 0 ≤ x ∧ x < 8
    · obtain ⟨k, rfl⟩ : ∃ k : Nat, x = (k : Int) := ⟨x.toNat, by omega⟩
      have hk : k < 8 := by omega
      rw [ofSet_nat hk]
      obtain ⟨h0, h8⟩ := hs
      go_enter Try.func14, Try.ntmps14
      go_wp2_with fail
      (with_reducible refine (bit_c k _ _ rfl (by omega)).mono ?_)
      rintro e w' ⟨rfl, rfl⟩
      go_wp2
      refine bodyPost_ret (v := .agg #[.int .u64 ((2 ^ k : Nat) : Int), .int .i64 0]) (by simp [results, Try.results14, go_sem]) rfl ⟨rfl, ?_⟩
      exact bel_alloc (bel_alloc (Below.refl _ _) _) _
    · have : ofSet x = 0 := by unfold ofSet; rw [if_neg hs]
      rw [this]
      by_cases h0 : 0 ≤ x
      · have h8 : ¬ x < 8 := fun h => hs ⟨h0, h⟩
        go_enter Try.func14, Try.ntmps14
        go_wp2
        refine bodyPost_ret (v := .agg #[.int .u64 ((0 : Nat) : Int), .int .i64 0]) (by simp [results, Try.results14, go_sem]) rfl ⟨rfl, ?_⟩
        exact bel_alloc (bel_alloc (Below.refl _ _) _) _
      · go_enter Try.func14, Try.ntmps14
        go_wp2
        refine bodyPost_ret (v := .agg #[.int .u64 ((0 : Nat) : Int), .int .i64 0]) (by simp [results, Try.results14, go_sem]) rfl ⟨rfl, ?_⟩
        exact bel_alloc (bel_alloc (Below.refl _ _) _) _
  · rw [show min (max v 0) 3 = v by omega]
    by_cases hs : 0 ≤ x ∧ x < 8
    · obtain ⟨k, rfl⟩ : ∃ k : Nat, x = (k : Int) := ⟨x.toNat, by omega⟩
      have hk : k < 8 := by omega
      rw [ofSet_nat hk]
      obtain ⟨h0, h8⟩ := hs
      go_enter Try.func14, Try.ntmps14
      go_wp2_with fail
      (with_reducible refine (bit_c k _ _ rfl (by omega)).mono ?_)
      rintro e w' ⟨rfl, rfl⟩
      go_wp2
      refine bodyPost_ret (v := .agg #[.int .u64 ((2 ^ k : Nat) : Int), .int .i64 v]) (by simp [results, Try.results14, go_sem]) rfl ⟨rfl, ?_⟩
      exact bel_alloc (bel_alloc (Below.refl _ _) _) _
    · have : ofSet x = 0 := by unfold ofSet; rw [if_neg hs]
      rw [this]
      by_cases h0 : 0 ≤ x
      · have h8 : ¬ x < 8 := fun h => hs ⟨h0, h⟩
        go_enter Try.func14, Try.ntmps14
        go_wp2
        refine bodyPost_ret (v := .agg #[.int .u64 ((0 : Nat) : Int), .int .i64 v]) (by simp [results, Try.results14, go_sem]) rfl ⟨rfl, ?_⟩
        exact bel_alloc (bel_alloc (Below.refl _ _) _) _
      · go_enter Try.func14, Try.ntmps14
        go_wp2
        refine bodyPost_ret (v := .agg #[.int .u64 ((0 : Nat) : Int), .int .i64 v]) (by simp [results, Try.results14, go_sem]) rfl ⟨rfl, ?_⟩
        exact bel_alloc (bel_alloc (Below.refl _ _) _) _
  · have hv0 : 0 ≤ v := by omega
    rw [show min (max v 0) 3 = (3 : Int) by omega]
    by_cases hs : 0 ≤ x ∧ x < 8
    · obtain ⟨k, rfl⟩ : ∃ k : Nat, x = (k : Int) := ⟨x.toNat, by omega⟩
      have hk : k < 8 := by omega
      rw [ofSet_nat hk]
      obtain ⟨h0, h8⟩ := hs
      go_enter Try.func14, Try.ntmps14
      go_wp2_with fail
      (with_reducible refine (bit_c k _ _ rfl (by omega)).mono ?_)
      rintro e w' ⟨rfl, rfl⟩
      go_wp2
      refine bodyPost_ret (v := .agg #[.int .u64 ((2 ^ k : Nat) : Int), .int .i64 3]) (by simp [results, Try.results14, go_sem]) rfl ⟨rfl, ?_⟩
      exact bel_alloc (bel_alloc (Below.refl _ _) _) _
    · have : ofSet x = 0 := by unfold ofSet; rw [if_neg hs]
      rw [this]
      by_cases h0 : 0 ≤ x
      · have h8 : ¬ x < 8 := fun h => hs ⟨h0, h⟩
        go_enter Try.func14, Try.ntmps14
        go_wp2
        refine bodyPost_ret (v := .agg #[.int .u64 ((0 : Nat) : Int), .int .i64 3]) (by simp [results, Try.results14, go_sem]) rfl ⟨rfl, ?_⟩
        exact bel_alloc (bel_alloc (Below.refl _ _) _) _
      · go_enter Try.func14, Try.ntmps14
        go_wp2
        refine bodyPost_ret (v := .agg #[.int .u64 ((0 : Nat) : Int), .int .i64 3]) (by simp [results, Try.results14, go_sem]) rfl ⟨rfl, ?_⟩
        exact bel_alloc (bel_alloc (Below.refl _ _) _) _
end Go.Proofs.Ytpplledoankfgaa

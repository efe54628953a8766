/- LabelKnown. -/
import Derived.Test.YtpplledoankfgaaLabG
namespace Go.Proofs.Ytpplledoankfgaa
open Go.RowKit
section
variable (a b : Nat) (x y v u z r : Int) (w : World) (hx : x = (a : Int)) (hy : y = (b : Int)) (ha : a < 18446744073709551616) (hb : b < 18446744073709551616)
include hx hy ha hb
theorem join_v (hz : ((a ||| b : Nat) : Int) = z) (hr : max v u = r) : Calls Try.prog 11 #[.agg #[.int .u64 x, .int .i64 v], .agg #[.int .u64 y, .int .i64 u]] w fun e w' => e = .returned (.agg #[.int .u64 z, .int .i64 r]) ∧ Below w.heap.size w w' := by
  subst hz hr
  exact join_c a b x y v u w hx hy ha hb
theorem meet_v (hz : ((a &&& b : Nat) : Int) = z) (hr : min v u = r) : Calls Try.prog 12 #[.agg #[.int .u64 x, .int .i64 v], .agg #[.int .u64 y, .int .i64 u]] w fun e w' => e = .returned (.agg #[.int .u64 z, .int .i64 r]) ∧ Below w.heap.size w w' := by
  subst hz hr
  exact meet_c a b x y v u w hx hy ha hb
theorem below_v (q : Bool) (hq : belowB a v b u = q) : Calls Try.prog 13 #[.agg #[.int .u64 x, .int .i64 v], .agg #[.int .u64 y, .int .i64 u]] w fun e w' => e = .returned (.bool q) ∧ Below w.heap.size w w' := by
  subst hq
  exact below_c a b x y v u w hx hy ha hb
end
theorem right_v (a : Nat) (x v : Int) (q : Bool) (w : World) (hx : x = (a : Int)) (hq : rightB a v = q) : Calls Try.prog 15 #[.agg #[.int .u64 x, .int .i64 v]] w fun e w' => e = .returned (.bool q) ∧ Below w.heap.size w w' := by
  subst hq
  exact right_c a x v w hx
theorem of_v (x v z r : Int) (w : World) (hz : (ofSet x : Int) = z) (hr : min (max v 0) 3 = r) : Calls Try.prog 14 #[.int .i64 x, .int .i64 v] w fun e w' => e = .returned (.agg #[.int .u64 z, .int .i64 r]) ∧ Below w.heap.size w w' := by
  subst hz hr
  exact of_c x v w
theorem members_v (n : Nat) (x v : Int) (L : List Nat) (m : Nat) (w : World) (hx : x = (n : Int)) (hn : n < 18446744073709551616) (hL : memL n = L) (hm : L.length = m) : Calls Try.prog 9 #[.agg #[.int .u64 x, .int .i64 v]] w fun e w' => ∃ A c, e = .returned (.slice A m c) ∧ NsA w' A L ∧ Below w.heap.size w w' := by
  subst hL hm
  exact members_c n x v w hx hn
theorem lidx (k : Nat) (hk : k < 9) : ∃ s : List UInt8, s.length ≤ 4 ∧ readV s = (0, 0, 2) ∧ ∀ w : World, (Instr.index 22 (.agg #[.string ⟨#[]⟩, .string ⟨#[49]⟩, .string ⟨#[49, 58, 50, 48]⟩, .string ⟨#[49, 58, 48, 48]⟩, .string ⟨#[52, 58, 49]⟩, .string ⟨#[49, 58, 56]⟩, .string ⟨#[32, 49, 58]⟩, .string ⟨#[49, 58, 48, 32]⟩, .string ⟨#[120, 58]⟩]) (.int .i64 (k : Int))).run Try.prog w = .ok (.string ⟨s.toArray⟩) w := by
  rcases (show k = 0 ∨ k = 1 ∨ k = 2 ∨ k = 3 ∨ k = 4 ∨ k = 5 ∨ k = 6 ∨ k = 7 ∨ k = 8 by omega) with rfl | rfl | rfl | rfl | rfl | rfl | rfl | rfl | rfl
  · exact ⟨[], by decide, by decide +kernel, fun w => by kernel_rfl⟩
  · exact ⟨[49], by decide, by decide +kernel, fun w => by kernel_rfl⟩
  · exact ⟨[49, 58, 50, 48], by decide, by decide +kernel, fun w => by kernel_rfl⟩
  · exact ⟨[49, 58, 48, 48], by decide, by decide +kernel, fun w => by kernel_rfl⟩
  · exact ⟨[52, 58, 49], by decide, by decide +kernel, fun w => by kernel_rfl⟩
  · exact ⟨[49, 58, 56], by decide, by decide +kernel, fun w => by kernel_rfl⟩
  · exact ⟨[32, 49, 58], by decide, by decide +kernel, fun w => by kernel_rfl⟩
  · exact ⟨[49, 58, 48, 32], by decide, by decide +kernel, fun w => by kernel_rfl⟩
  · exact ⟨[120, 58], by decide, by decide +kernel, fun w => by kernel_rfl⟩
/-- The two labels, what the members are. -/
def KnB (w : World) (g h : Nat) (A : Option Addr) (V : World) : Prop := Blk V g 25 #[.int .u64 5, .int .i64 1] ∧ Blk V h 25 #[.int .u64 6, .int .i64 0] ∧ NsA V A [1, 7] ∧ Below w.heap.size w V
theorem KnB.below {w V V' : World} {g h : Nat} {A : Option Addr} (x : KnB w g h A V) (hb : Below V.heap.size V V') : KnB w g h A V' := ⟨x.1.below hb x.1.lt, x.2.1.below hb x.2.1.lt, x.2.2.1.below hb, bel_tr2 x.2.2.2 hb⟩
set_option maxRecDepth 100000 in
set_option maxHeartbeats 3200000 in
theorem labelKnown_c (w : World) : Calls Try.prog 3 #[] w fun e w' => e = .returned (.bool true) ∧ Below w.heap.size w w' := by
  go_enter Try.func3, Try.ntmps3
  go_wp2
  go_loopw [9] (fun i wr => ∃ k : Nat, k ≤ 9 ∧ i = .int .i64 k ∧ Below w.heap.size w wr) (fun i _ => 9 - (intOf i).toNat)
  case atStart => exact ⟨0, by omega, rfl, Below.refl _ _⟩
  case round =>
    obtain ⟨k, hk, rfl, hb⟩ := hrel
    have HB := Lib.hid hb
    clear hb
    by_cases hlt : k < 9
    · have hlt' : (k : Int) < 9 := by omega
      obtain ⟨s, hs4, hrv, hidx⟩ := lidx k hlt
      have HS4 := Lib.hid hs4
      have HRV := Lib.hid hrv
      clear hs4 hrv
      go_wp2_with fail
      (with_reducible refine (read_v s 0 0 0 2 _ (by have := HS4.out; omega) HRV.out rfl).mono ?_)
      rintro e w3 ⟨rfl, hb⟩
      have HB3 := Lib.hid (bel_tr2 HB.out hb)
      clear hb hidx
      go_wp2
      go_roundw
      case rel => exact ⟨k + 1, by omega, by go_num, bel_alloc HB3.out _⟩
      case measure => simp [intOf]; omega
    · obtain rfl : k = 9 := by omega
      go_wp2_with fail
      (with_reducible refine (members_v 9223372036854775938 9223372036854775938 0 [1, 7] 2 _ rfl (by decide) (by decide +kernel) rfl).mono ?_)
      rintro e w1 ⟨A, c, rfl, hA, hb⟩
      have HB1 := Lib.hid (bel_tr2 (bel_alloc (bel_alloc HB.out (.cells #[.int .u64 5, .int .i64 1] 25)) (.cells #[.int .u64 6, .int .i64 0] 25)) hb)
      have h5 := (Blk.new wr 25 #[.int .u64 5, .int .i64 1]).alloc (.cells #[.int .u64 6, .int .i64 0] 25)
      have h6 := Blk.new (wr.alloc (.cells #[.int .u64 5, .int .i64 1] 25)) 25 #[.int .u64 6, .int .i64 0]
      have HK := Lib.hid (show KnB w wr.heap.size (wr.heap.size + 1) A w1 from ⟨h5.below hb h5.lt, by have := h6.below hb h6.lt; simpa using this, hA, HB1.out⟩)
      obtain ⟨g, hg⟩ : ∃ g, wr.heap.size = g := ⟨_, rfl⟩
      rw [hg] at HK ⊢
      clear hA hb h5 h6 hg HB1 HB
      obtain ⟨q, rfl, _, _⟩ := HK.out.2.2.1.lt 0 (by decide)
      go_wp2_with fail
      have HKd := Lib.hid (show KnB w g (g + 1) (some ⟨q, 0, none⟩) w1.drew from ⟨HK.out.1.drew, HK.out.2.1.drew, HK.out.2.2.1.drew, HK.out.2.2.2.drew⟩)
      refine wp_region_det (S := KnB w g (g + 1) (some ⟨q, 0, none⟩)) (by kernel_rfl) HKd.out ?_
      refine det_take (v := ?_) (i := 0) (fuel := 80) (by simp; rfl) (by kernel_rfl) (by kernel_rfl) (by kernel_rfl) (Or.inl ⟨by rfl, fun w' hS => Or.inr ⟨10, #[], w', ?_, ?_⟩⟩) ?_
      rotate_left
      · go_simp
        all_goals with_reducible rfl
      · exact (known8_c w').mono fun e w2 h => ⟨by rw [h.1], hS.below h.2⟩
      simp only [Act.put, List.setIfInBounds_toArray, List.set_cons_zero, List.set_cons_succ]
      refine det_take (v := ?_) (i := 1) (fuel := 79) (by simp; rfl) (by kernel_rfl) (by kernel_rfl) (by kernel_rfl) (Or.inl ⟨by rfl, fun w' hS => Or.inl ⟨w', ?_, hS⟩⟩) ?_
      rotate_left
      · go_simp
        all_goals with_reducible rfl
      simp only [Act.put, List.setIfInBounds_toArray, List.set_cons_zero, List.set_cons_succ]
      refine det_take (v := ?_) (i := 2) (fuel := 78) (by simp; rfl) (by kernel_rfl) (by kernel_rfl) (by kernel_rfl) (Or.inl ⟨by rfl, fun w' hS => Or.inl ⟨w', ?_, hS⟩⟩) ?_
      rotate_left
      · obtain ⟨_, a0, a1, _, _⟩ := two_of hS.1
        obtain ⟨_, b0, b1, _, _⟩ := two_of hS.2.1
        go_simp
        all_goals with_reducible rfl
      simp only [Act.put, List.setIfInBounds_toArray, List.set_cons_zero, List.set_cons_succ]
      refine det_take (v := ?_) (i := 3) (fuel := 77) (by simp; rfl) (by kernel_rfl) (by kernel_rfl) (by kernel_rfl) (Or.inl ⟨by rfl, fun w' hS => Or.inl ⟨w', ?_, hS⟩⟩) ?_
      rotate_left
      · obtain ⟨_, a0, a1, _, _⟩ := two_of hS.1
        obtain ⟨_, b0, b1, _, _⟩ := two_of hS.2.1
        go_simp
        all_goals with_reducible rfl
      simp only [Act.put, List.setIfInBounds_toArray, List.set_cons_zero, List.set_cons_succ]
      refine det_take (v := ?_) (i := 4) (fuel := 76) (by simp; rfl) (by kernel_rfl) (by kernel_rfl) (by kernel_rfl) (Or.inl ⟨by rfl, fun w' hS => Or.inr ⟨11, #[.agg #[.int .u64 5, .int .i64 1], .agg #[.int .u64 6, .int .i64 0]], w', ?_, ?_⟩⟩) ?_
      rotate_left
      · go_simp
        all_goals with_reducible rfl
      · exact (join_v 5 6 5 6 1 0 7 1 w' rfl rfl (by decide) (by decide) (by decide) (by decide)).mono fun e w2 h => ⟨by rw [h.1], hS.below h.2⟩
      simp only [Act.put, List.setIfInBounds_toArray, List.set_cons_zero, List.set_cons_succ]
      refine det_take (v := ?_) (i := 5) (fuel := 75) (by simp; rfl) (by kernel_rfl) (by kernel_rfl) (by kernel_rfl) (Or.inl ⟨by rfl, fun w' hS => Or.inl ⟨w', ?_, hS⟩⟩) ?_
      rotate_left
      · go_simp
        all_goals with_reducible rfl
      simp only [Act.put, List.setIfInBounds_toArray, List.set_cons_zero, List.set_cons_succ]
      refine det_take (v := ?_) (i := 6) (fuel := 74) (by simp; rfl) (by kernel_rfl) (by kernel_rfl) (by kernel_rfl) (Or.inl ⟨by rfl, fun w' hS => Or.inl ⟨w', ?_, hS⟩⟩) ?_
      rotate_left
      · go_simp
        all_goals with_reducible rfl
      simp only [Act.put, List.setIfInBounds_toArray, List.set_cons_zero, List.set_cons_succ]
      refine det_take (v := ?_) (i := 7) (fuel := 73) (by simp; rfl) (by kernel_rfl) (by kernel_rfl) (by kernel_rfl) (Or.inl ⟨by rfl, fun w' hS => Or.inl ⟨w', ?_, hS⟩⟩) ?_
      rotate_left
      · go_simp
        all_goals with_reducible rfl
      simp only [Act.put, List.setIfInBounds_toArray, List.set_cons_zero, List.set_cons_succ]
      refine det_take (v := ?_) (i := 8) (fuel := 72) (by simp; rfl) (by kernel_rfl) (by kernel_rfl) (by kernel_rfl) (Or.inl ⟨by rfl, fun w' hS => Or.inl ⟨w', ?_, hS⟩⟩) ?_
      rotate_left
      · go_simp
        all_goals with_reducible rfl
      simp only [Act.put, List.setIfInBounds_toArray, List.set_cons_zero, List.set_cons_succ]
      refine det_take (v := ?_) (i := 9) (fuel := 71) (by simp; rfl) (by kernel_rfl) (by kernel_rfl) (by kernel_rfl) (Or.inl ⟨by rfl, fun w' hS => Or.inl ⟨w', ?_, hS⟩⟩) ?_
      rotate_left
      · obtain ⟨_, a0, a1, _, _⟩ := two_of hS.1
        obtain ⟨_, b0, b1, _, _⟩ := two_of hS.2.1
        go_simp
        all_goals with_reducible rfl
      simp only [Act.put, List.setIfInBounds_toArray, List.set_cons_zero, List.set_cons_succ]
      refine det_take (v := ?_) (i := 10) (fuel := 70) (by simp; rfl) (by kernel_rfl) (by kernel_rfl) (by kernel_rfl) (Or.inl ⟨by rfl, fun w' hS => Or.inl ⟨w', ?_, hS⟩⟩) ?_
      rotate_left
      · obtain ⟨_, a0, a1, _, _⟩ := two_of hS.1
        obtain ⟨_, b0, b1, _, _⟩ := two_of hS.2.1
        go_simp
        all_goals with_reducible rfl
      simp only [Act.put, List.setIfInBounds_toArray, List.set_cons_zero, List.set_cons_succ]
      refine det_take (v := ?_) (i := 11) (fuel := 69) (by simp; rfl) (by kernel_rfl) (by kernel_rfl) (by kernel_rfl) (Or.inl ⟨by rfl, fun w' hS => Or.inr ⟨12, #[.agg #[.int .u64 5, .int .i64 1], .agg #[.int .u64 6, .int .i64 0]], w', ?_, ?_⟩⟩) ?_
      rotate_left
      · go_simp
        all_goals with_reducible rfl
      · exact (meet_v 5 6 5 6 1 0 4 0 w' rfl rfl (by decide) (by decide) (by decide) (by decide)).mono fun e w2 h => ⟨by rw [h.1], hS.below h.2⟩
      simp only [Act.put, List.setIfInBounds_toArray, List.set_cons_zero, List.set_cons_succ]
      refine det_take (v := ?_) (i := 12) (fuel := 68) (by simp; rfl) (by kernel_rfl) (by kernel_rfl) (by kernel_rfl) (Or.inl ⟨by rfl, fun w' hS => Or.inl ⟨w', ?_, hS⟩⟩) ?_
      rotate_left
      · go_simp
        all_goals with_reducible rfl
      simp only [Act.put, List.setIfInBounds_toArray, List.set_cons_zero, List.set_cons_succ]
      refine det_take (v := ?_) (i := 13) (fuel := 67) (by simp; rfl) (by kernel_rfl) (by kernel_rfl) (by kernel_rfl) (Or.inl ⟨by rfl, fun w' hS => Or.inl ⟨w', ?_, hS⟩⟩) ?_
      rotate_left
      · go_simp
        all_goals with_reducible rfl
      simp only [Act.put, List.setIfInBounds_toArray, List.set_cons_zero, List.set_cons_succ]
      refine det_take (v := ?_) (i := 14) (fuel := 66) (by simp; rfl) (by kernel_rfl) (by kernel_rfl) (by kernel_rfl) (Or.inl ⟨by rfl, fun w' hS => Or.inl ⟨w', ?_, hS⟩⟩) ?_
      rotate_left
      · go_simp
        all_goals with_reducible rfl
      simp only [Act.put, List.setIfInBounds_toArray, List.set_cons_zero, List.set_cons_succ]
      refine det_take (v := ?_) (i := 15) (fuel := 65) (by simp; rfl) (by kernel_rfl) (by kernel_rfl) (by kernel_rfl) (Or.inl ⟨by rfl, fun w' hS => Or.inl ⟨w', ?_, hS⟩⟩) ?_
      rotate_left
      · go_simp
        all_goals with_reducible rfl
      simp only [Act.put, List.setIfInBounds_toArray, List.set_cons_zero, List.set_cons_succ]
      refine det_take (v := ?_) (i := 16) (fuel := 64) (by simp; rfl) (by kernel_rfl) (by kernel_rfl) (by kernel_rfl) (Or.inl ⟨by rfl, fun w' hS => Or.inl ⟨w', ?_, hS⟩⟩) ?_
      rotate_left
      · obtain ⟨_, a0, a1, _, _⟩ := two_of hS.1
        obtain ⟨_, b0, b1, _, _⟩ := two_of hS.2.1
        go_simp
        all_goals with_reducible rfl
      simp only [Act.put, List.setIfInBounds_toArray, List.set_cons_zero, List.set_cons_succ]
      refine det_take (v := ?_) (i := 17) (fuel := 63) (by simp; rfl) (by kernel_rfl) (by kernel_rfl) (by kernel_rfl) (Or.inl ⟨by rfl, fun w' hS => Or.inl ⟨w', ?_, hS⟩⟩) ?_
      rotate_left
      · obtain ⟨_, a0, a1, _, _⟩ := two_of hS.1
        obtain ⟨_, b0, b1, _, _⟩ := two_of hS.2.1
        go_simp
        all_goals with_reducible rfl
      simp only [Act.put, List.setIfInBounds_toArray, List.set_cons_zero, List.set_cons_succ]
      refine det_take (v := ?_) (i := 18) (fuel := 62) (by simp; rfl) (by kernel_rfl) (by kernel_rfl) (by kernel_rfl) (Or.inl ⟨by rfl, fun w' hS => Or.inr ⟨13, #[.agg #[.int .u64 5, .int .i64 1], .agg #[.int .u64 6, .int .i64 0]], w', ?_, ?_⟩⟩) ?_
      rotate_left
      · go_simp
        all_goals with_reducible rfl
      · exact (below_v 5 6 5 6 1 0 w' rfl rfl (by decide) (by decide) false (by decide)).mono fun e w2 h => ⟨by rw [h.1], hS.below h.2⟩
      simp only [Act.put, List.setIfInBounds_toArray, List.set_cons_zero, List.set_cons_succ]
      refine det_take (v := ?_) (i := 19) (fuel := 61) (by simp; rfl) (by kernel_rfl) (by kernel_rfl) (by kernel_rfl) (Or.inl ⟨by rfl, fun w' hS => Or.inl ⟨w', ?_, hS⟩⟩) ?_
      rotate_left
      · go_simp
        all_goals with_reducible rfl
      simp only [Act.put, List.setIfInBounds_toArray, List.set_cons_zero, List.set_cons_succ]
      refine det_take (v := ?_) (i := 20) (fuel := 60) (by simp; rfl) (by kernel_rfl) (by kernel_rfl) (by kernel_rfl) (Or.inl ⟨by rfl, fun w' hS => Or.inl ⟨w', ?_, hS⟩⟩) ?_
      rotate_left
      · go_simp
        all_goals with_reducible rfl
      simp only [Act.put, List.setIfInBounds_toArray, List.set_cons_zero, List.set_cons_succ]
      refine det_take (v := ?_) (i := 21) (fuel := 59) (by simp; rfl) (by kernel_rfl) (by kernel_rfl) (by kernel_rfl) (Or.inl ⟨by rfl, fun w' hS => Or.inl ⟨w', ?_, hS⟩⟩) ?_
      rotate_left
      · go_simp
        all_goals with_reducible rfl
      simp only [Act.put, List.setIfInBounds_toArray, List.set_cons_zero, List.set_cons_succ]
      refine det_take (v := ?_) (i := 22) (fuel := 58) (by simp; rfl) (by kernel_rfl) (by kernel_rfl) (by kernel_rfl) (Or.inl ⟨by rfl, fun w' hS => Or.inl ⟨w', ?_, hS⟩⟩) ?_
      rotate_left
      · obtain ⟨_, a0, a1, _, _⟩ := two_of hS.1
        obtain ⟨_, b0, b1, _, _⟩ := two_of hS.2.1
        go_simp
        all_goals with_reducible rfl
      simp only [Act.put, List.setIfInBounds_toArray, List.set_cons_zero, List.set_cons_succ]
      refine det_take (v := ?_) (i := 23) (fuel := 57) (by simp; rfl) (by kernel_rfl) (by kernel_rfl) (by kernel_rfl) (Or.inl ⟨by rfl, fun w' hS => Or.inl ⟨w', ?_, hS⟩⟩) ?_
      rotate_left
      · obtain ⟨_, a0, a1, _, _⟩ := two_of hS.1
        obtain ⟨_, b0, b1, _, _⟩ := two_of hS.2.1
        go_simp
        all_goals with_reducible rfl
      simp only [Act.put, List.setIfInBounds_toArray, List.set_cons_zero, List.set_cons_succ]
      refine det_take (v := ?_) (i := 24) (fuel := 56) (by simp; rfl) (by kernel_rfl) (by kernel_rfl) (by kernel_rfl) (Or.inl ⟨by rfl, fun w' hS => Or.inr ⟨12, #[.agg #[.int .u64 5, .int .i64 1], .agg #[.int .u64 6, .int .i64 0]], w', ?_, ?_⟩⟩) ?_
      rotate_left
      · go_simp
        all_goals with_reducible rfl
      · exact (meet_v 5 6 5 6 1 0 4 0 w' rfl rfl (by decide) (by decide) (by decide) (by decide)).mono fun e w2 h => ⟨by rw [h.1], hS.below h.2⟩
      simp only [Act.put, List.setIfInBounds_toArray, List.set_cons_zero, List.set_cons_succ]
      refine det_take (v := ?_) (i := 25) (fuel := 55) (by simp; rfl) (by kernel_rfl) (by kernel_rfl) (by kernel_rfl) (Or.inl ⟨by rfl, fun w' hS => Or.inl ⟨w', ?_, hS⟩⟩) ?_
      rotate_left
      · obtain ⟨_, b0, b1, _, _⟩ := two_of hS.2.1
        go_simp
        all_goals with_reducible rfl
      simp only [Act.put, List.setIfInBounds_toArray, List.set_cons_zero, List.set_cons_succ]
      refine det_take (v := ?_) (i := 26) (fuel := 54) (by simp; rfl) (by kernel_rfl) (by kernel_rfl) (by kernel_rfl) (Or.inl ⟨by rfl, fun w' hS => Or.inr ⟨13, #[.agg #[.int .u64 4, .int .i64 0], .agg #[.int .u64 6, .int .i64 0]], w', ?_, ?_⟩⟩) ?_
      rotate_left
      · go_simp
        all_goals with_reducible rfl
      · exact (below_v 4 6 4 6 0 0 w' rfl rfl (by decide) (by decide) true (by decide)).mono fun e w2 h => ⟨by rw [h.1], hS.below h.2⟩
      simp only [Act.put, List.setIfInBounds_toArray, List.set_cons_zero, List.set_cons_succ]
      refine det_take (v := ?_) (i := 27) (fuel := 53) (by simp; rfl) (by kernel_rfl) (by kernel_rfl) (by kernel_rfl) (Or.inl ⟨by rfl, fun w' hS => Or.inl ⟨w', ?_, hS⟩⟩) ?_
      rotate_left
      · go_simp
        all_goals with_reducible rfl
      simp only [Act.put, List.setIfInBounds_toArray, List.set_cons_zero, List.set_cons_succ]
      refine det_take (v := ?_) (i := 28) (fuel := 52) (by simp; rfl) (by kernel_rfl) (by kernel_rfl) (by kernel_rfl) (Or.inl ⟨by rfl, fun w' hS => Or.inl ⟨w', ?_, hS⟩⟩) ?_
      rotate_left
      · go_simp
        all_goals with_reducible rfl
      simp only [Act.put, List.setIfInBounds_toArray, List.set_cons_zero, List.set_cons_succ]
      refine det_take (v := ?_) (i := 29) (fuel := 51) (by simp; rfl) (by kernel_rfl) (by kernel_rfl) (by kernel_rfl) (Or.inl ⟨by rfl, fun w' hS => Or.inr ⟨14, #[.int .i64 3, .int .i64 9], w', ?_, ?_⟩⟩) ?_
      rotate_left
      · go_simp
        all_goals with_reducible rfl
      · exact (of_v 3 9 8 3 w' (by decide) (by decide)).mono fun e w2 h => ⟨by rw [h.1], hS.below h.2⟩
      simp only [Act.put, List.setIfInBounds_toArray, List.set_cons_zero, List.set_cons_succ]
      refine det_take (v := ?_) (i := 30) (fuel := 50) (by simp; rfl) (by kernel_rfl) (by kernel_rfl) (by kernel_rfl) (Or.inl ⟨by rfl, fun w' hS => Or.inl ⟨w', ?_, hS⟩⟩) ?_
      rotate_left
      · go_simp
        all_goals with_reducible rfl
      simp only [Act.put, List.setIfInBounds_toArray, List.set_cons_zero, List.set_cons_succ]
      refine det_take (v := ?_) (i := 31) (fuel := 49) (by simp; rfl) (by kernel_rfl) (by kernel_rfl) (by kernel_rfl) (Or.inl ⟨by rfl, fun w' hS => Or.inl ⟨w', ?_, hS⟩⟩) ?_
      rotate_left
      · go_simp
        all_goals with_reducible rfl
      simp only [Act.put, List.setIfInBounds_toArray, List.set_cons_zero, List.set_cons_succ]
      refine det_take (v := ?_) (i := 32) (fuel := 48) (by simp; rfl) (by kernel_rfl) (by kernel_rfl) (by kernel_rfl) (Or.inl ⟨by rfl, fun w' hS => Or.inl ⟨w', ?_, hS⟩⟩) ?_
      rotate_left
      · go_simp
        all_goals with_reducible rfl
      simp only [Act.put, List.setIfInBounds_toArray, List.set_cons_zero, List.set_cons_succ]
      refine det_take (v := ?_) (i := 33) (fuel := 47) (by simp; rfl) (by kernel_rfl) (by kernel_rfl) (by kernel_rfl) (Or.inl ⟨by rfl, fun w' hS => Or.inl ⟨w', ?_, hS⟩⟩) ?_
      rotate_left
      · go_simp
        all_goals with_reducible rfl
      simp only [Act.put, List.setIfInBounds_toArray, List.set_cons_zero, List.set_cons_succ]
      refine det_take (v := ?_) (i := 34) (fuel := 46) (by simp; rfl) (by kernel_rfl) (by kernel_rfl) (by kernel_rfl) (Or.inl ⟨by rfl, fun w' hS => Or.inr ⟨14, #[.int .i64 8, .int .i64 1], w', ?_, ?_⟩⟩) ?_
      rotate_left
      · go_simp
        all_goals with_reducible rfl
      · exact (of_v 8 1 0 1 w' (by decide) (by decide)).mono fun e w2 h => ⟨by rw [h.1], hS.below h.2⟩
      simp only [Act.put, List.setIfInBounds_toArray, List.set_cons_zero, List.set_cons_succ]
      refine det_take (v := ?_) (i := 35) (fuel := 45) (by simp; rfl) (by kernel_rfl) (by kernel_rfl) (by kernel_rfl) (Or.inl ⟨by rfl, fun w' hS => Or.inl ⟨w', ?_, hS⟩⟩) ?_
      rotate_left
      · go_simp
        all_goals with_reducible rfl
      simp only [Act.put, List.setIfInBounds_toArray, List.set_cons_zero, List.set_cons_succ]
      refine det_take (v := ?_) (i := 36) (fuel := 44) (by simp; rfl) (by kernel_rfl) (by kernel_rfl) (by kernel_rfl) (Or.inl ⟨by rfl, fun w' hS => Or.inl ⟨w', ?_, hS⟩⟩) ?_
      rotate_left
      · go_simp
        all_goals with_reducible rfl
      simp only [Act.put, List.setIfInBounds_toArray, List.set_cons_zero, List.set_cons_succ]
      refine det_take (v := ?_) (i := 37) (fuel := 43) (by simp; rfl) (by kernel_rfl) (by kernel_rfl) (by kernel_rfl) (Or.inl ⟨by rfl, fun w' hS => Or.inl ⟨w', ?_, hS⟩⟩) ?_
      rotate_left
      · go_simp
        all_goals with_reducible rfl
      simp only [Act.put, List.setIfInBounds_toArray, List.set_cons_zero, List.set_cons_succ]
      refine det_take (v := ?_) (i := 38) (fuel := 42) (by simp; rfl) (by kernel_rfl) (by kernel_rfl) (by kernel_rfl) (Or.inl ⟨by rfl, fun w' hS => Or.inl ⟨w', ?_, hS⟩⟩) ?_
      rotate_left
      · go_simp
        all_goals with_reducible rfl
      simp only [Act.put, List.setIfInBounds_toArray, List.set_cons_zero, List.set_cons_succ]
      refine det_take (v := ?_) (i := 39) (fuel := 41) (by simp; rfl) (by kernel_rfl) (by kernel_rfl) (by kernel_rfl) (Or.inl ⟨by rfl, fun w' hS => Or.inr ⟨14, #[.int .i64 (-1), .int .i64 (-1)], w', ?_, ?_⟩⟩) ?_
      rotate_left
      · go_simp
        all_goals with_reducible rfl
      · exact (of_v (-1) (-1) 0 0 w' (by decide) (by decide)).mono fun e w2 h => ⟨by rw [h.1], hS.below h.2⟩
      simp only [Act.put, List.setIfInBounds_toArray, List.set_cons_zero, List.set_cons_succ]
      refine det_take (v := ?_) (i := 40) (fuel := 40) (by simp; rfl) (by kernel_rfl) (by kernel_rfl) (by kernel_rfl) (Or.inl ⟨by rfl, fun w' hS => Or.inl ⟨w', ?_, hS⟩⟩) ?_
      rotate_left
      · go_simp
        all_goals with_reducible rfl
      simp only [Act.put, List.setIfInBounds_toArray, List.set_cons_zero, List.set_cons_succ]
      refine det_take (v := ?_) (i := 41) (fuel := 39) (by simp; rfl) (by kernel_rfl) (by kernel_rfl) (by kernel_rfl) (Or.inl ⟨by rfl, fun w' hS => Or.inl ⟨w', ?_, hS⟩⟩) ?_
      rotate_left
      · go_simp
        all_goals with_reducible rfl
      simp only [Act.put, List.setIfInBounds_toArray, List.set_cons_zero, List.set_cons_succ]
      refine det_take (v := ?_) (i := 42) (fuel := 38) (by simp; rfl) (by kernel_rfl) (by kernel_rfl) (by kernel_rfl) (Or.inl ⟨by rfl, fun w' hS => Or.inl ⟨w', ?_, hS⟩⟩) ?_
      rotate_left
      · go_simp
        all_goals with_reducible rfl
      simp only [Act.put, List.setIfInBounds_toArray, List.set_cons_zero, List.set_cons_succ]
      refine det_take (v := ?_) (i := 43) (fuel := 37) (by simp; rfl) (by kernel_rfl) (by kernel_rfl) (by kernel_rfl) (Or.inl ⟨by rfl, fun w' hS => Or.inl ⟨w', ?_, hS⟩⟩) ?_
      rotate_left
      · go_simp
        all_goals with_reducible rfl
      simp only [Act.put, List.setIfInBounds_toArray, List.set_cons_zero, List.set_cons_succ]
      refine det_take (v := ?_) (i := 44) (fuel := 36) (by simp; rfl) (by kernel_rfl) (by kernel_rfl) (by kernel_rfl) (Or.inl ⟨by rfl, fun w' hS => Or.inl ⟨w', ?_, hS⟩⟩) ?_
      rotate_left
      · go_simp
        all_goals with_reducible rfl
      simp only [Act.put, List.setIfInBounds_toArray, List.set_cons_zero, List.set_cons_succ]
      refine det_take (v := ?_) (i := 45) (fuel := 35) (by simp; rfl) (by kernel_rfl) (by kernel_rfl) (by kernel_rfl) (Or.inl ⟨by rfl, fun w' hS => Or.inr ⟨15, #[.agg #[.int .u64 256, .int .i64 0]], w', ?_, ?_⟩⟩) ?_
      rotate_left
      · go_simp
        all_goals with_reducible rfl
      · exact (right_v 256 256 0 false w' rfl (by decide)).mono fun e w2 h => ⟨by rw [h.1], hS.below h.2⟩
      simp only [Act.put, List.setIfInBounds_toArray, List.set_cons_zero, List.set_cons_succ]
      refine det_take (v := ?_) (i := 46) (fuel := 34) (by simp; rfl) (by kernel_rfl) (by kernel_rfl) (by kernel_rfl) (Or.inl ⟨by rfl, fun w' hS => Or.inl ⟨w', ?_, hS⟩⟩) ?_
      rotate_left
      · go_simp
        all_goals with_reducible rfl
      simp only [Act.put, List.setIfInBounds_toArray, List.set_cons_zero, List.set_cons_succ]
      refine det_take (v := ?_) (i := 47) (fuel := 33) (by simp; rfl) (by kernel_rfl) (by kernel_rfl) (by kernel_rfl) (Or.inl ⟨by rfl, fun w' hS => Or.inl ⟨w', ?_, hS⟩⟩) ?_
      rotate_left
      · go_simp
        all_goals with_reducible rfl
      simp only [Act.put, List.setIfInBounds_toArray, List.set_cons_zero, List.set_cons_succ]
      refine det_take (v := ?_) (i := 48) (fuel := 32) (by simp; rfl) (by kernel_rfl) (by kernel_rfl) (by kernel_rfl) (Or.inl ⟨by rfl, fun w' hS => Or.inl ⟨w', ?_, hS⟩⟩) ?_
      rotate_left
      · go_simp
        all_goals with_reducible rfl
      simp only [Act.put, List.setIfInBounds_toArray, List.set_cons_zero, List.set_cons_succ]
      refine det_take (v := ?_) (i := 49) (fuel := 31) (by simp; rfl) (by kernel_rfl) (by kernel_rfl) (by kernel_rfl) (Or.inl ⟨by rfl, fun w' hS => Or.inl ⟨w', ?_, hS⟩⟩) ?_
      rotate_left
      · go_simp
        all_goals with_reducible rfl
      simp only [Act.put, List.setIfInBounds_toArray, List.set_cons_zero, List.set_cons_succ]
      refine det_take (v := ?_) (i := 50) (fuel := 30) (by simp; rfl) (by kernel_rfl) (by kernel_rfl) (by kernel_rfl) (Or.inl ⟨by rfl, fun w' hS => Or.inr ⟨15, #[.agg #[.int .u64 0, .int .i64 4]], w', ?_, ?_⟩⟩) ?_
      rotate_left
      · go_simp
        all_goals with_reducible rfl
      · exact (right_v 0 0 4 false w' rfl (by decide)).mono fun e w2 h => ⟨by rw [h.1], hS.below h.2⟩
      simp only [Act.put, List.setIfInBounds_toArray, List.set_cons_zero, List.set_cons_succ]
      refine det_take (v := ?_) (i := 51) (fuel := 29) (by simp; rfl) (by kernel_rfl) (by kernel_rfl) (by kernel_rfl) (Or.inl ⟨by rfl, fun w' hS => Or.inl ⟨w', ?_, hS⟩⟩) ?_
      rotate_left
      · go_simp
        all_goals with_reducible rfl
      simp only [Act.put, List.setIfInBounds_toArray, List.set_cons_zero, List.set_cons_succ]
      refine det_take (v := ?_) (i := 52) (fuel := 28) (by simp; rfl) (by kernel_rfl) (by kernel_rfl) (by kernel_rfl) (Or.inl ⟨by rfl, fun w' hS => Or.inl ⟨w', ?_, hS⟩⟩) ?_
      rotate_left
      · go_simp
        all_goals with_reducible rfl
      simp only [Act.put, List.setIfInBounds_toArray, List.set_cons_zero, List.set_cons_succ]
      refine det_take (v := ?_) (i := 53) (fuel := 27) (by simp; rfl) (by kernel_rfl) (by kernel_rfl) (by kernel_rfl) (Or.inl ⟨by rfl, fun w' hS => Or.inl ⟨w', ?_, hS⟩⟩) ?_
      rotate_left
      · go_simp
        all_goals with_reducible rfl
      simp only [Act.put, List.setIfInBounds_toArray, List.set_cons_zero, List.set_cons_succ]
      refine det_take (v := ?_) (i := 54) (fuel := 26) (by simp; rfl) (by kernel_rfl) (by kernel_rfl) (by kernel_rfl) (Or.inl ⟨by rfl, fun w' hS => Or.inl ⟨w', ?_, hS⟩⟩) ?_
      rotate_left
      · go_simp
        all_goals with_reducible rfl
      simp only [Act.put, List.setIfInBounds_toArray, List.set_cons_zero, List.set_cons_succ]
      refine det_take (v := ?_) (i := 55) (fuel := 25) (by simp; rfl) (by kernel_rfl) (by kernel_rfl) (by kernel_rfl) (Or.inl ⟨by rfl, fun w' hS => Or.inr ⟨16, #[.agg #[.int .u64 0, .int .i64 (-1)]], w', ?_, ?_⟩⟩) ?_
      rotate_left
      · go_simp
        all_goals with_reducible rfl
      · exact (print_v 0 0 (-1) w' [] rfl (by decide) (by decide)).mono fun e w2 h => ⟨by rw [h.1], hS.below h.2⟩
      simp only [Act.put, List.setIfInBounds_toArray, List.set_cons_zero, List.set_cons_succ]
      refine det_take (v := ?_) (i := 56) (fuel := 24) (by simp; rfl) (by kernel_rfl) (by kernel_rfl) (by kernel_rfl) (Or.inl ⟨by rfl, fun w' hS => Or.inl ⟨w', ?_, hS⟩⟩) ?_
      rotate_left
      · go_simp
        all_goals with_reducible rfl
      simp only [Act.put, List.setIfInBounds_toArray, List.set_cons_zero, List.set_cons_succ]
      refine det_take (v := ?_) (i := 57) (fuel := 23) (by simp; rfl) (by kernel_rfl) (by kernel_rfl) (by kernel_rfl) (Or.inl ⟨by rfl, fun w' hS => Or.inl ⟨w', ?_, hS⟩⟩) ?_
      rotate_left
      · go_simp
        all_goals with_reducible rfl
      simp only [Act.put, List.setIfInBounds_toArray, List.set_cons_zero, List.set_cons_succ]
      refine det_take (v := ?_) (i := 58) (fuel := 22) (by simp; rfl) (by kernel_rfl) (by kernel_rfl) (by kernel_rfl) (Or.inl ⟨by rfl, fun w' hS => Or.inl ⟨w', ?_, hS⟩⟩) ?_
      rotate_left
      · go_simp
        all_goals with_reducible rfl
      simp only [Act.put, List.setIfInBounds_toArray, List.set_cons_zero, List.set_cons_succ]
      refine det_take (v := ?_) (i := 59) (fuel := 21) (by simp; rfl) (by kernel_rfl) (by kernel_rfl) (by kernel_rfl) (Or.inl ⟨by rfl, fun w' hS => Or.inl ⟨w', ?_, hS⟩⟩) ?_
      rotate_left
      · go_simp
        all_goals with_reducible rfl
      simp only [Act.put, List.setIfInBounds_toArray, List.set_cons_zero, List.set_cons_succ]
      refine det_take (v := ?_) (i := 60) (fuel := 20) (by simp; rfl) (by kernel_rfl) (by kernel_rfl) (by kernel_rfl) (Or.inl ⟨by rfl, fun w' hS => Or.inr ⟨16, #[.agg #[.int .u64 0, .int .i64 0]], w', ?_, ?_⟩⟩) ?_
      rotate_left
      · go_simp
        all_goals with_reducible rfl
      · exact (print_v 0 0 0 w' [48, 58] rfl (by decide) (by decide)).mono fun e w2 h => ⟨by rw [h.1], hS.below h.2⟩
      simp only [Act.put, List.setIfInBounds_toArray, List.set_cons_zero, List.set_cons_succ]
      refine det_take (v := ?_) (i := 61) (fuel := 19) (by simp; rfl) (by kernel_rfl) (by kernel_rfl) (by kernel_rfl) (Or.inl ⟨by rfl, fun w' hS => Or.inl ⟨w', ?_, hS⟩⟩) ?_
      rotate_left
      · go_simp
        all_goals with_reducible rfl
      simp only [Act.put, List.setIfInBounds_toArray, List.set_cons_zero, List.set_cons_succ]
      refine det_take (v := ?_) (i := 62) (fuel := 18) (by simp; rfl) (by kernel_rfl) (by kernel_rfl) (by kernel_rfl) (Or.inl ⟨by rfl, fun w' hS => Or.inl ⟨w', ?_, hS⟩⟩) ?_
      rotate_left
      · go_simp
        all_goals with_reducible rfl
      simp only [Act.put, List.setIfInBounds_toArray, List.set_cons_zero, List.set_cons_succ]
      refine det_take (v := ?_) (i := 63) (fuel := 17) (by simp; rfl) (by kernel_rfl) (by kernel_rfl) (by kernel_rfl) (Or.inl ⟨by rfl, fun w' hS => Or.inl ⟨w', ?_, hS⟩⟩) ?_
      rotate_left
      · go_simp
        all_goals with_reducible rfl
      simp only [Act.put, List.setIfInBounds_toArray, List.set_cons_zero, List.set_cons_succ]
      refine det_take (v := ?_) (i := 64) (fuel := 16) (by simp; rfl) (by kernel_rfl) (by kernel_rfl) (by kernel_rfl) (Or.inl ⟨by rfl, fun w' hS => Or.inl ⟨w', ?_, hS⟩⟩) ?_
      rotate_left
      · go_simp
        all_goals with_reducible rfl
      simp only [Act.put, List.setIfInBounds_toArray, List.set_cons_zero, List.set_cons_succ]
      refine det_take (v := ?_) (i := 65) (fuel := 15) (by simp; rfl) (by kernel_rfl) (by kernel_rfl) (by kernel_rfl) (Or.inl ⟨by rfl, fun w' hS => Or.inl ⟨w', ?_, hS⟩⟩) ?_
      rotate_left
      · go_simp
        all_goals with_reducible rfl
      simp only [Act.put, List.setIfInBounds_toArray, List.set_cons_zero, List.set_cons_succ]
      refine det_take (v := ?_) (i := 66) (fuel := 14) (by simp; rfl) (by kernel_rfl) (by kernel_rfl) (by kernel_rfl) (Or.inl ⟨by rfl, fun w' hS => Or.inl ⟨w', ?_, hS⟩⟩) ?_
      rotate_left
      · go_simp
        all_goals with_reducible rfl
      simp only [Act.put, List.setIfInBounds_toArray, List.set_cons_zero, List.set_cons_succ]
      refine det_take (v := ?_) (i := 67) (fuel := 13) (by simp; rfl) (by kernel_rfl) (by kernel_rfl) (by kernel_rfl) (Or.inl ⟨by rfl, fun w' hS => Or.inl ⟨w', ?_, hS⟩⟩) ?_
      rotate_left
      · go_simp
        all_goals with_reducible rfl
      simp only [Act.put, List.setIfInBounds_toArray, List.set_cons_zero, List.set_cons_succ]
      refine det_take (v := ?_) (i := 68) (fuel := 12) (by simp; rfl) (by kernel_rfl) (by kernel_rfl) (by kernel_rfl) (Or.inl ⟨by rfl, fun w' hS => Or.inl ⟨w', ?_, hS⟩⟩) ?_
      rotate_left
      · go_simp
        all_goals with_reducible rfl
      simp only [Act.put, List.setIfInBounds_toArray, List.set_cons_zero, List.set_cons_succ]
      refine det_take (v := ?_) (i := 69) (fuel := 11) (by simp; rfl) (by kernel_rfl) (by kernel_rfl) (by kernel_rfl) (Or.inl ⟨by rfl, fun w' hS => Or.inl ⟨w', ?_, hS⟩⟩) ?_
      rotate_left
      · go_simp
        all_goals with_reducible rfl
      simp only [Act.put, List.setIfInBounds_toArray, List.set_cons_zero, List.set_cons_succ]
      refine det_take (v := ?_) (i := 70) (fuel := 10) (by simp; rfl) (by kernel_rfl) (by kernel_rfl) (by kernel_rfl) (Or.inl ⟨by rfl, fun w' hS => Or.inl ⟨w', ?_, hS⟩⟩) ?_
      rotate_left
      · go_simp
        all_goals with_reducible rfl
      simp only [Act.put, List.setIfInBounds_toArray, List.set_cons_zero, List.set_cons_succ]
      refine det_take (v := ?_) (i := 71) (fuel := 9) (by simp; rfl) (by kernel_rfl) (by kernel_rfl) (by kernel_rfl) (Or.inl ⟨by rfl, fun w' hS => Or.inl ⟨w', ?_, hS⟩⟩) ?_
      rotate_left
      · obtain ⟨q2, e2, _, c0⟩ := hS.2.2.1.lt 0 (by decide)
        injection e2 with e2
        injection e2 with e2
        subst e2
        simp only [List.getElem_cons_zero] at c0
        go_simp
        all_goals with_reducible rfl
      simp only [Act.put, List.setIfInBounds_toArray, List.set_cons_zero, List.set_cons_succ]
      refine det_take (v := ?_) (i := 72) (fuel := 8) (by simp; rfl) (by kernel_rfl) (by kernel_rfl) (by kernel_rfl) (Or.inl ⟨by rfl, fun w' hS => Or.inl ⟨w', ?_, hS⟩⟩) ?_
      rotate_left
      · go_simp
        all_goals with_reducible rfl
      simp only [Act.put, List.setIfInBounds_toArray, List.set_cons_zero, List.set_cons_succ]
      refine det_take (v := ?_) (i := 73) (fuel := 7) (by simp; rfl) (by kernel_rfl) (by kernel_rfl) (by kernel_rfl) (Or.inl ⟨by rfl, fun w' hS => Or.inl ⟨w', ?_, hS⟩⟩) ?_
      rotate_left
      · go_simp
        all_goals with_reducible rfl
      simp only [Act.put, List.setIfInBounds_toArray, List.set_cons_zero, List.set_cons_succ]
      refine det_take (v := ?_) (i := 74) (fuel := 6) (by simp; rfl) (by kernel_rfl) (by kernel_rfl) (by kernel_rfl) (Or.inl ⟨by rfl, fun w' hS => Or.inl ⟨w', ?_, hS⟩⟩) ?_
      rotate_left
      · go_simp
        all_goals with_reducible rfl
      simp only [Act.put, List.setIfInBounds_toArray, List.set_cons_zero, List.set_cons_succ]
      refine det_take (v := ?_) (i := 75) (fuel := 5) (by simp; rfl) (by kernel_rfl) (by kernel_rfl) (by kernel_rfl) (Or.inl ⟨by rfl, fun w' hS => Or.inl ⟨w', ?_, hS⟩⟩) ?_
      rotate_left
      · go_simp
        all_goals with_reducible rfl
      simp only [Act.put, List.setIfInBounds_toArray, List.set_cons_zero, List.set_cons_succ]
      refine det_take (v := ?_) (i := 76) (fuel := 4) (by simp; rfl) (by kernel_rfl) (by kernel_rfl) (by kernel_rfl) (Or.inl ⟨by rfl, fun w' hS => Or.inl ⟨w', ?_, hS⟩⟩) ?_
      rotate_left
      · go_simp
        all_goals with_reducible rfl
      simp only [Act.put, List.setIfInBounds_toArray, List.set_cons_zero, List.set_cons_succ]
      refine det_take (v := ?_) (i := 77) (fuel := 3) (by simp; rfl) (by kernel_rfl) (by kernel_rfl) (by kernel_rfl) (Or.inl ⟨by rfl, fun w' hS => Or.inl ⟨w', ?_, hS⟩⟩) ?_
      rotate_left
      · obtain ⟨q2, e2, _, c0⟩ := hS.2.2.1.lt 1 (by decide)
        injection e2 with e2
        injection e2 with e2
        subst e2
        simp only [List.getElem_cons_zero, List.getElem_cons_succ] at c0
        go_simp
        all_goals with_reducible rfl
      simp only [Act.put, List.setIfInBounds_toArray, List.set_cons_zero, List.set_cons_succ]
      refine det_take (v := ?_) (i := 78) (fuel := 2) (by simp; rfl) (by kernel_rfl) (by kernel_rfl) (by kernel_rfl) (Or.inl ⟨by rfl, fun w' hS => Or.inl ⟨w', ?_, hS⟩⟩) ?_
      rotate_left
      · go_simp
        all_goals with_reducible rfl
      simp only [Act.put, List.setIfInBounds_toArray, List.set_cons_zero, List.set_cons_succ]
      refine det_take (v := ?_) (i := 79) (fuel := 1) (by simp; rfl) (by kernel_rfl) (by kernel_rfl) (by kernel_rfl) (Or.inl ⟨by rfl, fun w' hS => Or.inl ⟨w', ?_, hS⟩⟩) ?_
      rotate_left
      · go_simp
        all_goals with_reducible rfl
      simp only [Act.put, List.setIfInBounds_toArray, List.set_cons_zero, List.set_cons_succ]
      refine det_take (v := ?_) (i := 80) (fuel := 0) (by simp; rfl) (by kernel_rfl) (by kernel_rfl) (by kernel_rfl) (Or.inl ⟨by rfl, fun w' hS => Or.inl ⟨w', ?_, hS⟩⟩) ?_
      rotate_left
      · go_simp
        all_goals with_reducible rfl
      simp only [Act.put, List.setIfInBounds_toArray, List.set_cons_zero]
      refine det_done (by kernel_rfl) (fun V hV => ?_) _
      go_wp2
      go_ret
      exact ⟨rfl, hV.2.2.2⟩
end Go.Proofs.Ytpplledoankfgaa
